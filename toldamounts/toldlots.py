"""The told lots: eight tables of three things, 35 tables and systems of four subspaces."""

from toldamounts.errors import BadName, BadNumber
from toldamounts.formsums import ordered_lots
from toldamounts.kinds import is_integer_in, is_lot
from toldamounts.spaces import THINGS, ranks_in, require_prime

# How many figures the rows have, for each kind of name.
WIDTHS = {"hit": 1, "three": 2, "double": 2, "wide": 2, "corner": 3, "plane": 3, "planes": 4}
# The rows of each thing that the name has.
ROWS_OF_NAMED = {"three": (), "double": ((1, 1),), "wide": ((1, 0), (0, 1)), "plane": ((1, 1, 0), (0, 1, 1))}
# The rows of the other things, ascending, one each.
ROWS_OF_OTHERS = {
    "three": ((1, 0), (0, 1), (1, 1)),
    "double": ((1, 0), (0, 1)),
    "wide": ((1, 0), (0, 1), (1, 1)),
    "plane": ((1, 0, 0), (0, 1, 0), (0, 0, 1)),
    "corner": ((1, 0, 0), (0, 1, 0), (0, 0, 1), (1, 1, 1)),
}
PLANES = (
    ((1, 0, 0, 0), (0, 1, 0, 0)),
    ((0, 0, 1, 0), (0, 0, 0, 1)),
    ((1, 0, 1, 0), (0, 1, 0, 1)),
    ((1, 0, 0, 1), (0, 1, 1, 1)),
)


def names_told(n):
    """The told lots' names for three or four things."""
    names = [("hit", lot) for lot in ordered_lots(n)]
    if n == 3:
        return tuple(names) + (("three",),)
    names.extend([("corner",), ("planes",)])
    for i in range(THINGS):
        names.extend([("three", i), ("wide", i), ("plane", i)])
        names.extend([("double", i, j) for j in range(i + 1, THINGS)])
    return tuple(sorted(names))


def is_told_name(n, thing):
    """Whether any value is a told lot's name for three or four things."""
    if not isinstance(thing, tuple) or thing == ():
        return False
    if thing[0] == "hit":
        return len(thing) == 2 and is_lot(n, thing[1]) and thing[1] != ()
    if n == 3:
        return thing == ("three",)
    if thing[0] in ("three", "wide", "plane"):
        return len(thing) == 2 and is_integer_in(thing[1], 0, THINGS - 1)
    if thing[0] == "double":
        return len(thing) == 3 and is_lot(THINGS, thing[1:])
    return thing in (("corner",), ("planes",))


def require_three_or_four(n):
    """Raises BadNumber with a value that is not 3 or 4."""
    if not is_integer_in(n, 3, 4):
        raise BadNumber(n)


def require_told_name(n, name):
    """Raises BadName with a value that is no told lot's name for three or four things."""
    if not is_told_name(n, name):
        raise BadName(name)


def rows_told(name):
    """The rows of each thing in the told system of a name for four things, as a dict; a thing may be missing."""
    kind = name[0]
    if kind == "hit":
        return {thing: ((1,),) for thing in name[1]}
    if kind == "planes":
        return dict(enumerate(PLANES))
    named = name[1:]
    others = [thing for thing in range(THINGS) if thing not in named]
    rows = {thing: (row,) for thing, row in zip(others, ROWS_OF_OTHERS[kind])}
    for thing in named:
        rows[thing] = ROWS_OF_NAMED[kind]
    return rows


def system_told(p, name):
    """The told system of a name for four things."""
    rows = rows_told(name)
    return p, WIDTHS[name[0]], tuple([rows.get(thing, ()) for thing in range(THINGS)])


def table_told(n, name):
    """The table that a name for three or four things names."""
    if n == THINGS:
        return ranks_in(system_told(2, name))
    if name[0] == "hit":
        return n, tuple([1 if is_hit(lot, name[1]) else 0 for lot in ordered_lots(n)])
    return n, tuple([min(len(lot), 2) for lot in ordered_lots(n)])


def is_hit(lot, hit):
    """Whether a lot has one of the things of another one."""
    return any([thing in hit for thing in lot])


def told_names(n):
    """The ascending tuple of the told lots' names for three or four things."""
    require_three_or_four(n)
    return names_told(n)


def told_table(n, name):
    """The table of a told lot's name for three or four things."""
    require_three_or_four(n)
    require_told_name(n, name)
    return table_told(n, name)


def told_system(p, name):
    """The told system of a name for four things."""
    require_prime(p)
    require_told_name(THINGS, name)
    return system_told(p, name)
