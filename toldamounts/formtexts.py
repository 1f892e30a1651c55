"""Forms as texts, and texts read as forms."""

from toldamounts.errors import BadText
from toldamounts.forms import MOST_THINGS, is_term, require_form

DIGITS = "0123456789"


def text_of(form):
    """The text of a form."""
    require_form(form)
    lines = [f"form {form[0]}"]
    for lot, factor in form[1]:
        lines.append(" ".join([str(number) for number in (factor,) + lot]))
    return "\n".join(lines)


def read_form(text):
    """The form of a text."""
    if not isinstance(text, str):
        raise BadText(0)
    lines = text.split("\n")
    n = size_told(lines[0])
    if n == 0:
        raise BadText(1)
    terms = []
    for at, line in enumerate(lines[1:], start=2):
        term = term_told(n, line)
        if term is None or (terms != [] and term[0] <= terms[-1][0]):
            raise BadText(at)
        terms.append(term)
    return n, tuple(terms)


def size_told(line):
    """The number of things that a first line tells, 0 if it is no first line of a text."""
    for n in range(1, MOST_THINGS + 1):
        if line == f"form {n}":
            return n
    return 0


def term_told(n, line):
    """The term of n things that a line tells, None if it tells none."""
    words = line.split(" ")
    if not all([is_written_integer(word) for word in words]):
        return None
    numbers = [int(word) for word in words]
    term = (tuple(numbers[1:]), numbers[0])
    return term if is_term(n, term) else None


def is_written_integer(word):
    """Whether a word is an integer just as Python writes it."""
    digits = word.removeprefix("-")
    if digits == "" or not all([sign in DIGITS for sign in digits]):
        return False
    return word == "0" or digits[0] != "0"
