"""Motions that are known to be right, and the closed sets that they make."""

MOST_MEMBERS = 120


def still(m):
    """The motion of m points that leaves all as it is."""
    return tuple(range(m))


def after(one, other):
    """One motion, and then the other one."""
    return tuple([other[item] for item in one])


def rows_of_makers(m, makers):
    """For each member, positions of makers that are the member one after the other, in a dict.

    It stops early if there are too many members, with more than 120 of them.
    """
    rows = {still(m): ()}
    reached = [still(m)]
    while reached != [] and len(rows) <= MOST_MEMBERS:
        found = []
        for one in reached:
            for at, maker in enumerate(makers):
                member = after(one, maker)
                if member not in rows:
                    rows[member] = rows[one] + (at,)
                    found.append(member)
        reached = found
    return rows


def members_made(m, makers):
    """The members that makers make, ascending."""
    return tuple(sorted(rows_of_makers(m, makers)))
