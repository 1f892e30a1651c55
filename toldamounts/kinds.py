"""Looks at any values: whether they are integers, tuples, lots or renamings."""


def is_integer(thing):
    """Whether any value is an integer; True and False are none."""
    return isinstance(thing, int) and not isinstance(thing, bool)


def is_integer_in(thing, low, high):
    """Whether any value is an integer from low to high."""
    return is_integer(thing) and low <= thing <= high


def is_tuple_of(thing, size):
    """Whether any value is a tuple of so many items."""
    return isinstance(thing, tuple) and len(thing) == size


def are_integers_in(thing, low, high):
    """Whether any value is a tuple of integers from low to high; it may be ()."""
    return isinstance(thing, tuple) and all([is_integer_in(item, low, high) for item in thing])


def is_ascending(items):
    """Whether things that Python can sort ascend, none of them twice."""
    return all([one < other for one, other in zip(items, items[1:])])


def is_lot(n, thing):
    """Whether any value is a lot of n things; it may be ()."""
    return are_integers_in(thing, 0, n - 1) and is_ascending(thing)


def is_within(one, other):
    """Whether a lot has no other things than another one."""
    return all([thing in other for thing in one])


def is_renaming(n, thing):
    """Whether any value is a renaming of n things."""
    return are_integers_in(thing, 0, n - 1) and sorted(thing) == list(range(n))
