"""Forms by copies, and papers that show them ([8.1], [8.2])."""

import random
import unittest
from itertools import combinations, permutations

from tests.checks import ODD, Checked
from tests.hand import form_by_hand, named_by_hand, nearly, total_by_hand
from tests.test_basics import basic_by_hand, names_by_hand
from tests.test_forms import NO_FORMS, some_forms
from tests.test_spaceforms import NO_FORMS_OF_FOUR
from toldamounts.basics import judge_basic
from toldamounts.copies import copies_hold, copy_form, told_paper
from toldamounts.errors import BadForm, BadNumber
from toldamounts.forms import led_form, times_form

UNLIKE = list(permutations(range(4), 2))
# What the document writes out for the things 0 and 1.
PAPER = (0, (2, 3), 1, (
    (("shared", 0, 1, (4,)), 1), (("shared", 0, 4, (1, 2, 3)), 1), (("shared", 0, 4, (2,)), 1), (("shared", 0, 4, (3,)), 1),
    (("shared", 1, 4, (0, 2, 3)), 1), (("shared", 1, 4, (2,)), 1), (("shared", 1, 4, (3,)), 1), (("shared", 2, 3, (0, 4)), 1),
    (("shared", 2, 3, (1, 4)), 1), (("shared", 2, 4, (0, 1, 3)), 1), (("shared", 3, 4, (0, 1)), 1),
), ((("apart",), -3), (("same", ()), 1), (("same", (2,)), -2), (("same", (2, 3)), 3), (("same", (3,)), -2)))


def shared(one, other, given=()):
    """The factors of what two lots share, given a third one, as a dict."""
    one, other, given = set(one), set(other), set(given)
    told = [(one | given, 1), (other | given, 1), (one | other | given, -1), (given, -1)]
    return total_by_hand([(factor, {tuple(sorted(lot)): 1}) for lot, factor in told if lot])


def copy_by_hand(i, j):
    """The factors of a form by copies, lot by lot, as a dict."""
    k, other = [thing for thing in range(4) if thing not in (i, j)]
    return total_by_hand([
        (1, shared([i], [j])), (1, shared([i], [k, other])), (3, shared([k], [other], [i])), (1, shared([k], [other], [j])),
        (-2, shared([k], [other])),
    ])


def lots_by_hand(things):
    """All lots of some things, () too."""
    return [lot for size in range(len(things) + 1) for lot in combinations(sorted(things), size)]


def equality_by_hand(c, over, name):
    """The factors of a form of five things that is nought for a copy of c over a lot."""
    if name == ("apart",):
        return shared([4], [thing for thing in range(4) if thing not in over], over)
    return total_by_hand([(1, {tuple(sorted(name[1] + (4,))): 1}), (-1, {tuple(sorted(name[1] + (c,))): 1})])


def is_int(thing, low=None, high=None):
    return thing.__class__ is int and (low is None or low <= thing) and (high is None or thing <= high)


def is_list_of(thing, names, is_right):
    """Whether any value is a tuple of pairs that has names of a list, ascending, with integers as they must be."""
    if thing.__class__ is not tuple or not all(pair.__class__ is tuple and len(pair) == 2 and is_right(pair[1]) for pair in thing):
        return False
    told = [name for name, _ in thing]
    places = [next((at for at, each in enumerate(names) if repr(each) == repr(name)), None) for name in told]
    return None not in places and all(one < other for one, other in zip(places, places[1:]))


def is_right(form, thing):
    """Whether any value is a right copy paper, looked at part by part and added up lot by lot."""
    if thing.__class__ is not tuple or len(thing) != 5:
        return False
    c, over, m, terms, equals = thing
    if not is_int(c, 0, 3) or not is_int(m, 1):
        return False
    if repr(over) not in [repr(lot) for lot in lots_by_hand([each for each in range(4) if each != c])]:
        return False
    names = sorted([("apart",)] + [("same", lot) for lot in lots_by_hand(over)])
    if not is_list_of(terms, sorted(names_by_hand(5)), lambda k: is_int(k, 1)) or not is_list_of(equals, names, lambda k: is_int(k) and k != 0):
        return False
    pairs = [(k, basic_by_hand(5, name)) for name, k in terms] + [(k, equality_by_hand(c, over, name)) for name, k in equals]
    return total_by_hand(pairs) == {lot: m * factor for lot, factor in form[1]}


def with_five(name):
    """The names of basic forms of five things that add up to a basic form of four things."""
    if name[0] == "shared":
        return [name]
    return [name, ("shared", name[1], 4, tuple(thing for thing in range(4) if thing != name[1]))]


def made_paper(choose, c, over, extra):
    """A form, and a copy paper for it: with a copy of c over a lot, and some basic forms of four things more."""
    terms = {}
    for name in extra:
        for each in with_five(name):
            terms[each] = terms.get(each, 0) + choose.randint(1, 2)
    # Only lots within over, with the copy, are in these: so each of them can be led back to a lot with c.
    near = [("shared", i, j, lot) for i, j in combinations(over + (4,), 2) for lot in lots_by_hand([x for x in over + (4,) if x not in (i, j)])]
    for name in choose.sample(near, min(len(near), 3)):
        terms[name] = terms.get(name, 0) + choose.randint(1, 3)
    if choose.random() < 0.7:
        terms[("alone", 4)] = choose.randint(1, 3)
    total = total_by_hand([(k, basic_by_hand(5, name)) for name, k in terms.items()])
    equals = {}
    if (0, 1, 2, 3, 4) in total:
        equals[("apart",)] = total[(0, 1, 2, 3, 4)]
        total = total_by_hand([(1, total), (equals[("apart",)], equality_by_hand(c, over, ("apart",)))])
    for lot in lots_by_hand(over):
        if lot + (4,) in total:
            equals[("same", lot)] = -total[lot + (4,)]
    total = total_by_hand([(1, total)] + [(k, equality_by_hand(c, over, name)) for name, k in equals.items() if name != ("apart",)])
    return total, (c, over, 1, tuple(sorted(terms.items())), tuple(sorted(equals.items())))


def some_papers(seed):
    """Pairs of a form of four things and a copy paper for it, for each thing c and each lot over of others."""
    choose = random.Random(seed)
    for c in range(4):
        for over in lots_by_hand([thing for thing in range(4) if thing != c]):
            while True:
                extra = choose.sample([name for name in names_by_hand(4) if name[0] == "shared"], choose.randint(0, 2))
                total, paper = made_paper(choose, c, over, extra)
                if all(4 not in lot for lot in total):
                    break
            yield form_by_hand(4, [(1, total)]), paper


def with_parts_changed(thing, worths):
    """A tuple with one part, at any depth, replaced, left out, doubled, or exchanged with the next one."""
    for at, part in enumerate(thing):
        for worth in worths:
            yield thing[:at] + (worth,) + thing[at + 1:]
        yield thing[:at] + thing[at + 1:]
        yield thing[:at] + (part, part) + thing[at + 1:]
        if at + 1 < len(thing):
            yield thing[:at] + (thing[at + 1], part) + thing[at + 2:]
        if part.__class__ is tuple:
            yield thing[:at] + (list(part),) + thing[at + 1:]
            for other in with_parts_changed(part, worths):
                yield thing[:at] + (other,) + thing[at + 1:]
        elif part.__class__ is int:
            for other in (part + 1, part - 1, -part, 0, 1 if part else False, part == 1, str(part), 10 ** 99):
                yield thing[:at] + (other,) + thing[at + 1:]


class TestCopyForms(Checked):

    def test_all_twelve_lot_by_lot(self):
        for i, j in UNLIKE:
            self.assert_same(copy_form(i, j), form_by_hand(4, [(1, copy_by_hand(i, j))]))
            self.assert_same(copy_form(j=j, i=i), copy_form(i, j))
            k, other = [thing for thing in range(4) if thing not in (i, j)]
            self.assert_same(led_form(copy_form(0, 1), (i, j, k, other)), copy_form(i, j))
        self.assertEqual(len({copy_form(i, j) for i, j in UNLIKE}), 12)

    def test_told_factors(self):
        # Worked out by hand; those of the lot of 1 alone are 1 and -1.
        self.assert_same(copy_form(0, 1), (4, (
            ((0,), -1), ((0, 1), -1), ((0, 2), 3), ((0, 2, 3), -4), ((0, 3), 3), ((1, 2), 1), ((1, 2, 3), -1), ((1, 3), 1),
            ((2,), -2), ((2, 3), 3), ((3,), -2))))

    def test_they_are_no_sums_of_basic_forms(self):
        for i, j in UNLIKE:
            self.assertEqual(judge_basic(copy_form(i, j))[0], "table")

    def test_bad_numbers(self):
        for call in (copy_form, told_paper):
            for thing in [odd for odd in ODD if odd not in (0, 1) or isinstance(odd, bool)] + [4, -1, "0", (0,), 10 ** 99]:
                self.assert_thing(BadNumber, thing, call, thing, 1)
                self.assert_thing(BadNumber, thing, call, thing, None)
                self.assert_thing(BadNumber, thing, call, 0, thing)
                self.assert_thing(BadNumber, thing, call, j=thing, i=3)
            for i in range(4):
                self.assert_thing(BadNumber, i, call, i, i)
                self.assert_thing(BadNumber, i, call, j=i, i=i)
            self.assert_thing(BadNumber, 4, call, 4, 4)
            self.assert_thing(BadNumber, True, call, 1, True)
            self.assert_thing(BadNumber, True, call, True, 1)


class TestPapers(Checked):

    def test_told_papers(self):
        for i, j in UNLIKE:
            paper = told_paper(i, j)
            self.assertTrue(is_right(copy_form(i, j), paper), paper)
            self.assert_same(told_paper(j=j, i=i), paper)
            for a, b in UNLIKE:
                self.assertIs(copies_hold(copy_form(a, b), paper), (a, b) == (i, j))

    def test_the_documents_paper(self):
        self.assertTrue(is_right(copy_form(0, 1), PAPER))
        self.assert_true(copies_hold(copy_form(0, 1), PAPER))
        self.assert_true(copies_hold(thing=PAPER, form=copy_form(0, 1)))
        self.assert_false(copies_hold(copy_form(0, 2), PAPER))
        self.assert_false(copies_hold(times_form(copy_form(0, 1), 2), PAPER))
        for other in nearly(copy_form(0, 1)):
            self.assert_false(copies_hold(other, PAPER))

    def test_multiples_and_basic_forms_more(self):
        c, over, _, terms, equals = PAPER
        for k, m in ((1, 1), (1, 3), (2, 5), (7, 1)):
            many = (c, over, m, tuple((name, k * m * n) for name, n in terms), tuple((name, k * m * n) for name, n in equals))
            self.assert_true(copies_hold(times_form(copy_form(0, 1), k), many))
            self.assert_false(copies_hold(times_form(copy_form(0, 1), k + 1), many))
        for name in names_by_hand(4):
            form = form_by_hand(4, [(1, copy_by_hand(0, 1)), (1, named_by_hand(4, name))])
            more = dict(terms)
            for each in with_five(name):
                more[each] = more.get(each, 0) + 1
            paper = (c, over, 1, tuple(sorted(more.items())), equals)
            self.assertTrue(is_right(form, paper))
            self.assert_true(copies_hold(form, paper))
            self.assert_false(copies_hold(form, PAPER))
            self.assert_false(copies_hold(copy_form(0, 1), paper))

    def test_papers_for_each_thing_and_lot(self):
        seen = set()
        for seed in range(6):
            for form, paper in some_papers(seed):
                self.assertTrue(is_right(form, paper), (form, paper))
                self.assert_true(copies_hold(form, paper), (form, paper))
                seen.add((paper[0], paper[1], bool(paper[4])))
                three = paper[:2] + (3,) + tuple(tuple((name, 3 * k) for name, k in part) for part in paper[3:])
                self.assert_true(copies_hold(form, three))
                for other in list(nearly(form))[seed::6]:
                    self.assert_false(copies_hold(other, paper))
        self.assertEqual(len([key for key in seen if key[2]]), 32)

    def test_papers_without_terms(self):
        for c in range(4):
            for over in lots_by_hand([thing for thing in range(4) if thing != c]):
                self.assert_true(copies_hold((4, ()), (c, over, 5, (), ())))
                self.assert_false(copies_hold((4, (((c,), 1),)), (c, over, 5, (), ())))
                # The apart form alone has lots with the copy.
                self.assert_false(copies_hold((4, ()), (c, over, 1, (), ((("apart",), 1),))))

    def test_parts_changed_at_any_depth(self):
        worths = [None, True, False, -1, 0, 2, 5, (), "same", "apart", ("apart",), [], {}]
        for thing in with_parts_changed(PAPER, worths):
            wanted = is_right(copy_form(0, 1), thing)
            self.assertEqual(wanted, repr(thing) == repr(PAPER), thing)
            self.assertIs(copies_hold(copy_form(0, 1), thing), wanted, thing)
        for form, paper in list(some_papers(77))[::3]:
            for thing in list(with_parts_changed(paper, worths))[::3]:
                self.assertIs(copies_hold(form, thing), is_right(form, thing), thing)

    def test_other_names_and_things(self):
        c, over, m, terms, equals = PAPER
        form = copy_form(0, 1)
        for other in [thing for thing in range(-1, 6) if thing != c]:
            self.assert_false(copies_hold(form, (other, over, m, terms, equals)))
        for other in lots_by_hand(range(5)) + [(3, 2), (2, 2, 3), [2, 3], "23", (2, True)]:
            if other != over:
                self.assert_false(copies_hold(form, (c, other, m, terms, equals)))
        # The last thing is none of those over which a copy is made, and c is none of them.
        self.assert_false(copies_hold((4, ()), (0, (0,), 1, (), ())))
        self.assert_false(copies_hold((4, ()), (0, (4,), 1, (), ())))
        self.assert_false(copies_hold((4, ()), (4, (0,), 1, (), ())))
        for name in [("four", 0, 1), ("copy", 0, 1), ("shared", 0, 5, ()), ("alone", 5), ("apart",), ("same", ())]:
            self.assert_false(copies_hold(form, (c, over, m, tuple(sorted(terms + ((name, 1),))), equals)))
        # Names that add nothing must not stand there with the integer 0.
        for name in [("alone", 0), ("shared", 0, 1, ())]:
            self.assert_false(copies_hold(form, (c, over, m, tuple(sorted(terms + ((name, 0),))), equals)))
        for over_two, name in [((2, 3), ("apart",)), ((2,), ("same", ())), ((2,), ("same", (2,)))]:
            self.assert_false(copies_hold((4, ()), (c, over_two, 1, (), ((name, 0),))))
            self.assert_false(copies_hold((4, ()), (c, over_two, 1, (), ((name, False),))))
        for name in [("same", (1,)), ("same", (4,)), ("same", (0,)), ("same",), ("apart", ()), ("same", (3, 2)), ("alone", 0), ("same", [2])]:
            self.assert_false(copies_hold(form, (c, over, m, terms, equals + ((name, 1),))))

    def test_any_values(self):
        for thing in ODD + [PAPER + (1,), PAPER[:4], list(PAPER), (PAPER,), ("sum", 1, PAPER[3])]:
            self.assert_false(copies_hold(copy_form(0, 1), thing), thing)
        for thing in NO_FORMS_OF_FOUR:
            self.assert_thing(BadForm, thing, copies_hold, thing, PAPER)
            self.assert_thing(BadForm, thing, copies_hold, thing=None, form=thing)
        self.assertIn((5, ()), NO_FORMS_OF_FOUR)
        self.assertTrue(all(thing in NO_FORMS_OF_FOUR for thing in NO_FORMS))

    def test_great_integers(self):
        c, over, _, terms, equals = PAPER
        m = 10 ** 99
        self.assert_true(copies_hold(copy_form(0, 1), (c, over, m, tuple((n, m * k) for n, k in terms), tuple((n, m * k) for n, k in equals))))

    def test_forms_that_it_is_not_for(self):
        for form in [(4, ())] + some_forms(4, 31, 30, 4):
            for i, j in UNLIKE[::5]:
                self.assert_false(copies_hold(form, told_paper(i, j)))


if __name__ == "__main__":
    unittest.main()
