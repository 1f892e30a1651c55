"""Motions of up to six points, the closed sets that makers make, and which motions are members."""

from toldamounts.errors import BadMotion, BadMotions, BadNumber
from toldamounts.kinds import are_integers_in, is_ascending, is_integer_in, is_renaming, is_tuple_of
from toldamounts.motions import MOST_MEMBERS, after, members_made, rows_of_makers, still

MOST_POINTS = 6
MOST_MAKERS = 6


def require_points(m):
    """Raises BadNumber with a value that is no number of points."""
    if not is_integer_in(m, 1, MOST_POINTS):
        raise BadNumber(m)


def require_motion(m, thing):
    """Raises BadMotion with a value that is no motion of m points."""
    if not is_renaming(m, thing):
        raise BadMotion(thing)


def are_makers(m, thing):
    """Whether any value is a tuple of at most 6 motions of m points."""
    if not isinstance(thing, tuple) or len(thing) > MOST_MAKERS:
        return False
    return all([is_renaming(m, motion) for motion in thing])


def require_makers(m, thing):
    """Raises BadNumber with the number of points, then BadMotions with a value that is no makers, or makes too many."""
    require_points(m)
    if not are_makers(m, thing) or len(rows_of_makers(m, thing)) > MOST_MEMBERS:
        raise BadMotions(thing)


def is_motion(m, thing):
    """Whether any value is a motion of m points."""
    require_points(m)
    return is_renaming(m, thing)


def then(m, one, other):
    """One motion of m points, and then the other one."""
    require_points(m)
    require_motion(m, one)
    require_motion(m, other)
    return after(one, other)


def members_of(m, makers):
    """The ascending tuple of the members that makers make."""
    require_makers(m, makers)
    return members_made(m, makers)


def judge_member(m, makers, motion):
    """A certificate of whether a motion is a member."""
    require_makers(m, makers)
    require_motion(m, motion)
    rows = rows_of_makers(m, makers)
    if motion in rows:
        return ("row", rows[motion])
    return ("closed", tuple(sorted(rows)))


def member_holds(m, makers, motion, thing):
    """Whether any value is a certificate of whether a motion is a member."""
    require_makers(m, makers)
    require_motion(m, motion)
    if not is_tuple_of(thing, 2):
        return False
    if thing[0] == "row":
        return are_integers_in(thing[1], 0, len(makers) - 1) and row_made(m, makers, thing[1]) == motion
    return thing[0] == "closed" and is_closed(m, thing[1]) and is_beyond(makers, motion, thing[1])


def row_made(m, makers, positions):
    """The motion that makers are, one after the other, by their positions."""
    made = still(m)
    for at in positions:
        made = after(made, makers[at])
    return made


def is_closed(m, thing):
    """Whether any value is an ascending tuple of motions that is a closed set."""
    if not isinstance(thing, tuple) or not all([is_renaming(m, motion) for motion in thing]):
        return False
    members = {motion: True for motion in thing}
    if not is_ascending(thing) or still(m) not in members:
        return False
    return all([all([after(one, other) in members for other in thing]) for one in thing])


def is_beyond(makers, motion, members):
    """Whether a motion is not among the members, which have all makers."""
    return motion not in members and all([maker in members for maker in makers])
