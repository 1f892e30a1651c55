"""Texts of desks, read back, and texts that are none ([13.3])."""

import random
import re
import unittest

from tests.checks import ODD, Checked
from tests.test_conditions import CIPHER, KEY, some_conditions, some_followers
from tests.test_desks import made, state
from toldamounts.conditions import is_following
from toldamounts.desks import Desk, read_desk
from toldamounts.errors import BadText
from toldamounts.formtexts import read_form, text_of

TEXT = "desk 3\ncondition\n-1 0\n1 0 2\n-1 2\ncondition\n-1 0 1 2\n1 1 2\nclaim\n-1 0\n1 1"
TERM = re.compile(r"(-?[1-9][0-9]*)((?: [0-9])+)")


def term_by_hand(n, line):
    """The lot and the factor of a line, or None."""
    found = TERM.fullmatch(line)
    if not found:
        return None
    lot = tuple(int(word) for word in found.group(2).split())
    return (lot, int(found.group(1))) if list(lot) == sorted(set(lot)) and lot[-1] < n else None


def wrong_line(text):
    """The number of the line that an error carries for a text, or None if it is the text of a desk."""
    lines = text.split("\n")
    if lines[0] not in ("desk 3", "desk 4"):
        return 1
    n = int(lines[0][-1])
    forms = {"condition": [], "claim": []}
    places, now = [], None
    for at, line in enumerate(lines[1:], start=2):
        if line in forms:
            if len(forms[line]) == 6 or line == "condition" and forms["claim"]:
                return at
            now = []
            forms[line].append(now)
            if line == "claim":
                places.append(at)
            continue
        term = term_by_hand(n, line)
        if now is None or term is None or now and not now[-1][0] < term[0]:
            return at
        now.append(term)
    conditions = tuple((n, tuple(terms)) for terms in forms["condition"])
    for at, terms in zip(places, forms["claim"]):
        if not is_following((n, tuple(terms)), conditions):
            return at
    return None


def some_desks(seed, many):
    """Desks for three and four things, with none to six conditions and claims."""
    choose = random.Random(seed)
    for n in (3, 4):
        for conditions in some_conditions(n, seed, many):
            yield made(n, conditions, [some_followers(n, conditions, choose) for _ in range(choose.randint(0, 6))])


class TestTexts(Checked):

    def check(self, text):
        """A text is read, or refused, as the document tells; whether it is read is returned."""
        at = wrong_line(text)
        if at is not None:
            self.assert_error(BadText, {"at": at}, read_desk, text)
            return False
        desk = read_desk(text)
        self.assertIs(desk.__class__, Desk)
        self.assert_same(desk.text(), text)
        self.assert_same((desk.undoable(), desk.redoable()), (0, 0))
        return True

    def test_told_texts(self):
        self.assert_same(read_desk("desk 4").size(), 4)
        self.assert_same(state(read_desk(text="desk 3")), (3, (), (), "desk 3", 0, 0))
        self.assert_true(self.check(TEXT))
        self.assert_true(read_desk(TEXT).is_same(made(3, CIPHER, (KEY,))))
        self.assert_same(made(3, ((3, ()), KEY), ((3, ()),)).text(), "desk 3\ncondition\ncondition\n-1 0\n1 1\nclaim")
        self.assert_true(self.check("desk 3\ncondition\ncondition\n-1 0\n1 1\nclaim"))
        self.assert_error(BadText, {"at": 2}, read_desk, "desk 3\nclaim\n-1 0")
        self.assert_error(BadText, {"at": 2}, read_desk, text="desk 3\nclaim\n-1 0")

    def test_texts_are_read_back(self):
        for desk in some_desks(41, 35):
            text = desk.text()
            lines = [f"desk {desk.size()}"]
            for heading, forms in (("condition", desk.conditions()), ("claim", desk.claims())):
                for form in forms:
                    lines += [heading] + text_of(form).split("\n")[1:]
                    self.assert_same(read_form("\n".join([f"form {desk.size()}"] + text_of(form).split("\n")[1:])), form)
            self.assert_same(text, "\n".join(lines))
            self.assert_true(self.check(text))
            self.assert_true(read_desk(text).is_same(desk))
            self.assert_same(state(read_desk(text)), state(desk)[:4] + (0, 0))

    def test_a_desk_that_was_read_goes_on(self):
        desk = read_desk(TEXT)
        desk.claim(KEY)
        desk.undo()
        self.assert_true(desk.is_same(made(3, CIPHER, (KEY,))))
        self.assertEqual((desk.undoable(), desk.redoable()), (0, 1))
        self.assert_true(read_desk(TEXT).is_same(desk))

    def test_first_lines(self):
        for first in ["", "desk", "desk ", "desk 2", "desk 5", "desk 33", "desk 3 ", " desk 3", "Desk 3", "desk  3", "desk 03", "desk +3", "desk 3.", "desk-3",
                      "form 3", "condition", "claim", "3", "desk three", "desk 3 4", "desk '3'", "desk 1", "desk 0", "desk -3"]:
            for rest in ("", "\ncondition\n1 0", "\nnonsense"):
                self.assert_error(BadText, {"at": 1}, read_desk, first + rest)
        for n in (3, 4):
            self.assert_error(BadText, {"at": 2}, read_desk, f"desk {n}\n")
            self.assert_error(BadText, {"at": 2}, read_desk, f"desk {n}\n\n")

    def test_lines_that_are_no_terms(self):
        for line in ["", " ", "1", "-1", "0 0", "-0 0", "+1 0", "1  0", " 1 0", "1 0 ", "01 0", "1 00", "1 0 0", "1 1 0", "1 3", "1 -1", "1 0,1", "1.0 0", "one 0",
                     "1 0 1 2 3", "--1 0", "- 1 0", "1 0 3", "Condition", "claims", "condition ", " claim", "condition 1", "form 3", "desk 3", "1_0 0", "1 +0", "0x1 0"]:
            self.assert_error(BadText, {"at": 3}, read_desk, "desk 3\ncondition\n" + line)
            self.assert_error(BadText, {"at": 4}, read_desk, "desk 3\ncondition\n1 0\n" + line + "\n1 1")
            self.assert_error(BadText, {"at": 2}, read_desk, "desk 3\n" + line + "\n1 1")
            self.assert_error(BadText, {"at": 3}, read_desk, "desk 3\nclaim\n" + line + "\nclaim\n-1 0")
        self.assert_true(self.check("desk 4\ncondition\n1 0 1 2 3\n12 3"))
        self.assert_error(BadText, {"at": 2}, read_desk, "desk 3\n1 0")

    def test_terms_that_do_not_ascend(self):
        for lines, at in [("1 0\n1 0", 4), ("1 1\n1 0", 4), ("1 0 1\n1 0", 4), ("1 0\n1 1\n1 0 1", 5), ("1 0\n-2 0", 4), ("1 0\n1 0 1\n1 1\n1 2\n1 1 2", 7)]:
            self.assert_error(BadText, {"at": at}, read_desk, "desk 3\ncondition\n" + lines)
            self.assert_error(BadText, {"at": at}, read_desk, "desk 4\nclaim\n" + lines)
        # The terms of two forms need not ascend.
        self.assert_true(self.check("desk 3\ncondition\n1 2\ncondition\n1 0\nclaim\n1 1\nclaim\n1 0"))

    def test_conditions_behind_claims_and_too_many(self):
        self.assert_error(BadText, {"at": 3}, read_desk, "desk 3\nclaim\ncondition")
        self.assert_error(BadText, {"at": 5}, read_desk, "desk 3\ncondition\nclaim\n1 0\ncondition\nclaim")
        for many in range(9):
            for more in range(9):
                text = "desk 4" + "\ncondition" * many + "\nclaim" * more
                self.assertIs(self.check(text), many <= 6 and more <= 6)
                if many > 6:
                    self.assert_error(BadText, {"at": 8}, read_desk, text)
                elif more > 6:
                    self.assert_error(BadText, {"at": many + 8}, read_desk, text)

    def test_claims_that_do_not_follow(self):
        self.assert_error(BadText, {"at": 5}, read_desk, "desk 3\nclaim\n1 0\n1 1\nclaim\n-1 0")
        # Of several, the first; what is no text of a desk, stands ahead of all of them.
        self.assert_error(BadText, {"at": 4}, read_desk, "desk 3\nclaim\n1 0\nclaim\n-1 0\nclaim\n-1 1")
        self.assert_error(BadText, {"at": 8}, read_desk, "desk 3\nclaim\n1 0\nclaim\n-1 0\nclaim\n-1 1\ncondition")
        self.assert_error(BadText, {"at": 6}, read_desk, "desk 3\nclaim\n1 0\nclaim\n-1 0\nclaims\n-1 1")
        # Conditions are looked at all together.
        self.assert_error(BadText, {"at": 6}, read_desk, TEXT.replace("condition\n-1 0 1 2\n1 1 2\n", ""))
        self.assert_error(BadText, {"at": 5}, read_desk, TEXT.replace("condition\n-1 0\n1 0 2\n-1 2\n", ""))

    def test_texts_with_lines_changed(self):
        choose = random.Random(42)
        kinds = {True: 0, False: 0}
        for desk in some_desks(43, 8):
            lines = desk.text().split("\n")
            for _ in range(25):
                new = list(lines)
                at, other = choose.randrange(len(new)), choose.randrange(len(new))
                kind = choose.randrange(6)
                if kind == 0:
                    new[at] = choose.choice(["condition", "claim", "1 0", "-1 0 1 2", "5 3", "", "desk 3", "0 1", "x", "2 1 2"])
                elif kind == 1:
                    del new[at]
                elif kind == 2:
                    new.insert(at, choose.choice(["condition", "claim", "1 0", "", "-7 2"]))
                elif kind == 3:
                    new.insert(at, new[at])
                elif kind == 4:
                    new[at], new[other] = new[other], new[at]
                else:
                    new.insert(other, new[at])
                kinds[self.check("\n".join(new))] += 1
        self.assertGreater(min(kinds.values()), 20, kinds)

    def test_texts_with_characters_changed(self):
        choose = random.Random(44)
        kinds = {True: 0, False: 0}
        for desk in [made(3, CIPHER, (KEY,))] * 4 + list(some_desks(45, 8)):
            text = desk.text()
            for _ in range(25):
                at = choose.randrange(len(text))
                sign = choose.choice("0123456789 -+\nacdmx~")
                new = choose.choice([
                    text[:at] + sign + text[at + 1:], text[:at] + text[at + 1:], text[:at] + sign + text[at:], text[:at] + text[at] + text[at:],
                    text[:at] + text[at + 1:at + 2] + text[at] + text[at + 2:]])
                kinds[self.check(new)] += 1
        self.assertGreater(min(kinds.values()), 20, kinds)

    def test_each_character_of_a_text(self):
        for at in range(len(TEXT)):
            self.check(TEXT[:at] + TEXT[at + 1:])
            self.check(TEXT[:at])
            for sign in "03 \n-":
                self.check(TEXT[:at] + sign + TEXT[at:])
                self.check(TEXT[:at] + sign + TEXT[at + 1:])

    def test_great_factors(self):
        factor = "9" * 95
        text = f"desk 3\ncondition\n-{factor} 0\nclaim\n-{factor}0 0"
        self.assert_true(self.check(text))
        self.assert_true(self.check("desk 4\ncondition\n" + "1" * 900 + " 0 1 2 3"))
        self.assert_error(BadText, {"at": 4}, read_desk, f"desk 3\ncondition\n{factor} 0\nclaim\n-{factor} 0")

    def test_values_that_are_no_strings(self):
        for thing in [odd for odd in ODD if not isinstance(odd, str)] + [Desk(3), ["desk 3"], ("desk 3",), {"desk 3": 1}]:
            self.assert_error(BadText, {"at": 0}, read_desk, thing)
            self.assert_error(BadText, {"at": 0}, read_desk, text=thing)
        for thing in [odd for odd in ODD if isinstance(odd, str)]:
            self.assert_error(BadText, {"at": 1}, read_desk, thing)


if __name__ == "__main__":
    unittest.main()
