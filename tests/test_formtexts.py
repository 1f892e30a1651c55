"""Texts of forms, written and read back ([3.4])."""

from tests.checks import ODD, Checked
from tests.test_forms import GOOD_FORMS, NO_FORMS, some_forms
from toldamounts.errors import BadForm, BadText
from toldamounts.formtexts import read_form, text_of

SIGNS = " -0123456789\n+aform_.~"
# Each text with the number of the line at which it goes wrong.
WRONG = [
    ("", 1), ("\n", 1), (" ", 1), ("form", 1), ("form ", 1), ("form 0", 1), ("form 6", 1), ("form 10", 1), ("form -1", 1), ("form 01", 1),
    ("form +1", 1), ("form 1 ", 1), (" form 1", 1), ("form  1", 1), ("Form 1", 1), ("forms 1", 1), ("form1", 1), ("form 1 1", 1), ("1", 1),
    ("form a", 1), ("form 1.0", 1), ("form 1\r", 1), ("\nform 1", 1), ("form 6\n1 5", 1), ("form x\nform y", 1),
    ("form 1\n", 2), ("form 1\n\n", 2), ("form 2\n\n1 0", 2), ("form 2\n1", 2), ("form 2\n1 ", 2), ("form 2\n 1 0", 2), ("form 2\n1 0 ", 2),
    ("form 2\n1  0", 2), ("form 2\n0 0", 2), ("form 2\n-0 0", 2), ("form 2\n+1 0", 2), ("form 2\n01 0", 2), ("form 2\n-01 0", 2),
    ("form 2\n--1 0", 2), ("form 2\n- 0", 2), ("form 2\n1- 0", 2), ("form 2\n1_0 0", 2), ("form 2\n1.0 0", 2), ("form 2\n1 2", 2),
    ("form 2\n1 -1", 2), ("form 2\n1 00", 2), ("form 2\n1 01", 2), ("form 2\n1 +0", 2), ("form 2\n1 -0", 2), ("form 2\n1 0 0", 2),
    ("form 2\n1 1 0", 2), ("form 2\n1 0 1 2", 2), ("form 2\n1 0,1", 2), ("form 2\n1 a", 2), ("form 2\na 0", 2), ("form 2\nform 2", 2),
    ("form 2\n1\t0", 2), ("form 2\n1 0\r", 2), ("form 2\n-", 2), ("form 2\n-1", 2), ("form 2\n1 (0,)", 2), ("form 1\n1 1", 2),
    ("form 2\n1 0\n", 3), ("form 2\n1 0\n\n2 1", 3), ("form 2\n1 0\n1 0", 3), ("form 2\n1 0\n2 0", 3), ("form 2\n1 1\n1 0", 3),
    ("form 2\n1 1\n1 0 1", 3), ("form 2\n1 0 1\n1 0", 3), ("form 2\n1 0\n0 1", 3), ("form 2\n1 1\n1 2", 3), ("form 2\n1 1\n1 1 2", 3),
    ("form 2\n1 0\n1 0 1\n1 1\n", 5), ("form 2\n1 0\n1 0 1\n1 1\n1 1", 5), ("form 3\n1 0\n1 0 2\n1 0 1 2", 4), ("form 3\n1 2\n1 1\nx", 3),
    ("form 2\n1 \u0660", 2), ("form 2\n\u00b2 0", 2), ("form \u0661", 1), ("form 2\n9" + "0" * 900 + " 2", 2), ("form 2\n0" + "9" * 900 + " 1", 2),
]


def text_by_hand(form):
    lines = ["form " + str(form[0])]
    for lot, factor in form[1]:
        lines.append(" ".join(map(str, (factor,) + lot)))
    return "\n".join(lines)


def wrong_line(text):
    """The line at which a text goes wrong, None if it does not, worked out line by line."""
    lines = text.split("\n")
    if lines[0] not in ["form " + str(n) for n in range(1, 6)]:
        return 1
    n, before = int(lines[0][5:]), ()
    for at, line in enumerate(lines[1:], start=2):
        first, _, rest = line.partition(" ")
        lot = tuple(int(word) for word in rest.split(" ") if word in "0 1 2 3 4".split())
        good = rest == " ".join(map(str, lot)) and lot and sorted(set(lot)) == list(lot) and lot[-1] < n and lot > before
        digits = first[1:] if first.startswith("-") else first
        good = good and digits and all(sign in "0123456789" for sign in digits) and digits[0] != "0"
        if not good:
            return at
        before = lot
    return None


class TestTexts(Checked):

    def test_told_texts(self):
        self.assert_same(text_of((2, (((0,), 1), ((0, 1), -3)))), "form 2\n1 0\n-3 0 1")
        self.assert_same(text_of(form=(1, ())), "form 1")
        self.assert_same(text_of((5, (((0, 1, 2, 3, 4), 1000), ((4,), -1000)))), "form 5\n1000 0 1 2 3 4\n-1000 4")
        self.assert_same(read_form("form 1"), (1, ()))
        self.assert_same(read_form("form 2\n-1 1"), (2, (((1,), -1),)))
        self.assert_same(read_form(text="form 5\n1000 0 1 2 3 4\n-1000 4"), (5, (((0, 1, 2, 3, 4), 1000), ((4,), -1000))))

    def test_written_and_read_back(self):
        for form in GOOD_FORMS + [form for n in range(1, 6) for form in some_forms(n, 60 + n, 8, 1000)]:
            text = text_of(form)
            self.assert_same(text, text_by_hand(form))
            self.assert_same(read_form(text), form)

    def test_great_factors(self):
        form = (1, (((0,), -(10 ** 900)),))
        self.assert_same(read_form(text_by_hand(form)), form)

    def test_wrong_texts(self):
        for text, at in WRONG:
            self.assert_error(BadText, {"at": at}, read_form, text)
            self.assert_error(BadText, {"at": at}, read_form, text=text)

    def test_no_texts(self):
        for thing in [odd for odd in ODD if not isinstance(odd, str)] + GOOD_FORMS + [["form 1"], ("form 1",), {"form 1": 1}]:
            self.assert_error(BadText, {"at": 0}, read_form, thing)
        for thing in [odd for odd in ODD if isinstance(odd, str) and odd != "form 1"]:
            self.assert_error(BadText, {"at": 1}, read_form, thing)

    def test_one_place_changed(self):
        good = 0
        for form in [(1, (((0,), -12),)), (3, (((0,), 1), ((0, 2), -30), ((1, 2), 2))), (5, (((0, 1, 3), 10), ((4,), -7)))]:
            text = text_of(form)
            for at in range(len(text) + 1):
                changed = [text[:at] + text[at + 1:]] + [text[:at] + sign + text[at:] for sign in SIGNS]
                changed += [text[:at] + sign + text[at + 1:] for sign in SIGNS if at < len(text)]
                for other in changed:
                    wrong = wrong_line(other)
                    if wrong is None:
                        good += 1
                        self.assert_same(text_of(read_form(other)), other)
                    else:
                        self.assert_error(BadText, {"at": wrong}, read_form, other)
        self.assertGreater(good, 100)

    def test_bad_forms(self):
        for thing in NO_FORMS:
            self.assert_thing(BadForm, thing, text_of, thing)
            self.assert_thing(BadForm, thing, text_of, form=thing)
