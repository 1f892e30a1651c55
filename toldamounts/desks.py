"""Desks: conditions, and claims that follow from them, kept under hand."""

from toldamounts.conditions import MOST_CONDITIONS, judged
from toldamounts.errors import BadForm, BadNumber, BadText, Broken, NothingToRedo, NothingToUndo, Unkept
from toldamounts.forms import is_form
from toldamounts.formtexts import term_told, text_of
from toldamounts.kinds import is_integer_in
from toldamounts.toldlots import require_three_or_four

MOST_CLAIMS = 6
CONDITION = "condition"
CLAIM = "claim"


class Desk:
    """Conditions on three or four things, and claims that follow from them; what was done can be undone."""

    def __init__(self, n):
        require_three_or_four(n)
        self._things = n
        self._standing = ((), ())
        self._past = []
        self._undone = []

    def size(self):
        """The number of things."""
        return self._things

    def conditions(self):
        """The conditions, in their order."""
        return self._standing[0]

    def claims(self):
        """The claims, in their order."""
        return self._standing[1]

    def text(self):
        """The text of the desk."""
        lines = [f"desk {self._things}"]
        for heading, forms in zip((CONDITION, CLAIM), self._standing):
            for form in forms:
                lines.append(heading)
                lines.extend(text_of(form).split("\n")[1:])
        return "\n".join(lines)

    def undoable(self):
        """How many deeds can be undone."""
        return len(self._past)

    def redoable(self):
        """How many deeds can be done again."""
        return len(self._undone)

    def copied(self):
        """A new desk with the same standing, and nothing to undo or to redo."""
        desk = Desk(self._things)
        desk._standing = self._standing
        return desk

    def is_same(self, thing):
        """Whether any value is a desk for as many things with an equal standing."""
        if not isinstance(thing, Desk):
            return False
        return thing._things == self._things and thing._standing == self._standing

    def put(self, form):
        """Puts a condition behind all others."""
        self._require_form(form)
        conditions, claims = self._standing
        if len(conditions) == MOST_CONDITIONS:
            raise BadNumber(MOST_CONDITIONS)
        self._keep(conditions + (form,), claims)

    def drop(self, at):
        """Takes the condition at a position away, if all claims follow without it."""
        conditions, claims = self._standing
        left = without(conditions, at)
        for place, form in enumerate(claims):
            found = judged(form, left)
            if found[0] == "broken":
                raise Unkept(place, found)
        self._keep(left, claims)

    def claim(self, form):
        """Puts a claim behind all others, if it follows."""
        self._require_form(form)
        conditions, claims = self._standing
        if len(claims) == MOST_CLAIMS:
            raise BadNumber(MOST_CLAIMS)
        found = judged(form, conditions)
        if found[0] == "broken":
            raise Broken(found)
        self._keep(conditions, claims + (form,))

    def release(self, at):
        """Takes the claim at a position away."""
        conditions, claims = self._standing
        self._keep(conditions, without(claims, at))

    def would(self, form):
        """A certificate of whether a form follows from the conditions."""
        self._require_form(form)
        return judged(form, self._standing[0])

    def undo(self):
        """Gives the desk the standing that it had ahead of the last deed that is not undone."""
        if self._past == []:
            raise NothingToUndo()
        self._undone.append(self._standing)
        self._standing = self._past.pop()

    def redo(self):
        """Gives the desk the standing that the deed that was undone last had left."""
        if self._undone == []:
            raise NothingToRedo()
        self._past.append(self._standing)
        self._standing = self._undone.pop()

    def _require_form(self, thing):
        """Raises BadForm with a value that is no form of as many things."""
        if not is_form(thing) or thing[0] != self._things:
            raise BadForm(thing)

    def _keep(self, conditions, claims):
        """Ends a deed with a new standing."""
        self._past.append(self._standing)
        self._standing = (conditions, claims)
        self._undone = []


def without(forms, at):
    """Forms without the one at a position; raises BadNumber with a value that is no position of them."""
    if not is_integer_in(at, 0, len(forms) - 1):
        raise BadNumber(at)
    return forms[:at] + forms[at + 1:]


def things_told(line):
    """The number of things that the first line of a text tells, 0 if it is no first line of a text."""
    for n in (3, 4):
        if line == f"desk {n}":
            return n
    return 0


def can_begin(headings, heading):
    """Whether a condition or a claim can stand behind those with the headings so far."""
    if heading == CONDITION:
        return CLAIM not in headings and len(headings) < MOST_CONDITIONS
    return headings.count(CLAIM) < MOST_CLAIMS


def parts_told(n, lines):
    """The triples (heading, number of its line, terms) that the lines behind the first one tell."""
    parts = []
    for at, line in enumerate(lines, start=2):
        if line in (CONDITION, CLAIM):
            if not can_begin([part[0] for part in parts], line):
                raise BadText(at)
            parts.append((line, at, []))
        else:
            term = term_told(n, line)
            if parts == [] or term is None or not is_behind(parts[-1][2], term):
                raise BadText(at)
            parts[-1][2].append(term)
    return parts


def is_behind(terms, term):
    """Whether a term's lot is behind those of all terms so far."""
    return terms == [] or terms[-1][0] < term[0]


def read_desk(text):
    """The desk of a text."""
    if not isinstance(text, str):
        raise BadText(0)
    lines = text.split("\n")
    n = things_told(lines[0])
    if n == 0:
        raise BadText(1)
    parts = parts_told(n, lines[1:])
    desk = Desk(n)
    for heading, at, terms in parts:
        form = (n, tuple(terms))
        if heading == CONDITION:
            desk.put(form)
        else:
            claim_at_line(desk, form, at)
    # A copy has nothing to undo.
    return desk.copied()


def claim_at_line(desk, form, at):
    """Puts a claim on a desk; raises BadText with the number of its line if it does not follow."""
    try:
        desk.claim(form)
    except Broken:
        raise BadText(at) from None
