"""Point 35: verdicts."""

import itertools
import random
import unittest

from ledelsewhere.errors import InvalidKind
from ledelsewhere.judge import KINDS
from ledelsewhere.verdicts import Verdict

PAGES = ("a", "b", "home", "desk", "", "Z")


def drawn_pairs(source):
    return [(source.choice(KINDS), source.choice(PAGES)) for _ in range(source.randint(0, 12))]


class TestPairs(unittest.TestCase):
    def test_order_and_duplicates(self):
        verdict = Verdict([("round", "a"), ("late", "b"), ("apart", "c"), ("late", "a"), ("late", "b"), ("apart", "B")])
        self.assertEqual(verdict.pairs(), [("apart", "B"), ("apart", "c"), ("late", "a"), ("late", "b"), ("round", "a")])
        self.assertEqual(verdict.kinds(), ["apart", "late", "round"])
        self.assertEqual(len(verdict), 5)

    def test_kinds_stand_in_their_order(self):
        for order in (KINDS, KINDS[::-1], tuple(sorted(KINDS))):
            verdict = Verdict(tuple((kind, page) for page in ("b", "a") for kind in order))
            self.assertEqual(verdict.pairs(), [(kind, page) for kind in KINDS for page in ("a", "b")])
            self.assertEqual(verdict.kinds(), list(KINDS))

    def test_pages_may_be_any_strings(self):
        pages = ("", " ", "A", "Z", "a", "aa", "b", "no such page", "~")
        verdict = Verdict([("late", page) for page in pages[::-1]])
        self.assertEqual([page for kind, page in verdict.pairs()], sorted(pages))

    def test_no_pairs(self):
        for verdict in (Verdict([]), Verdict(())):
            self.assertEqual((verdict.pairs(), verdict.kinds(), len(verdict)), ([], [], 0))
            self.assertIs(bool(verdict), False)

    def test_a_verdict_with_a_pair_is_true(self):
        self.assertIs(bool(Verdict([("late", "")])), True)
        self.assertIs(bool(Verdict([("late", "a"), ("late", "b")])), True)

    def test_the_first_kind_that_is_none_is_refused(self):
        for kind in ("", "no kind", "Apart", "shown", "apart "):
            for pairs in ([(kind, "a")], [("late", "a"), (kind, "a"), ("other", "b")], ((kind, "a"), ("late", "a"))):
                with self.subTest(pairs=pairs), self.assertRaises(InvalidKind) as caught:
                    Verdict(pairs)
                self.assertEqual(caught.exception.kind, kind)

    def test_in(self):
        verdict = Verdict([("late", "a"), ("apart", "b")])
        self.assertIs(("late", "a") in verdict, True)
        self.assertIs(("apart", "b") in verdict, True)
        for pair in (("late", "b"), ("apart", "a"), ("a", "late"), ("no kind", "a"), ("late", "")):
            self.assertIs(pair in verdict, False)
        self.assertIs(("late", "a") not in verdict, False)

    def test_only(self):
        verdict = Verdict([("late", "a"), ("apart", "b"), ("late", "b"), ("round", "a")])
        self.assertEqual(verdict.only(["late"]).pairs(), [("late", "a"), ("late", "b")])
        self.assertEqual(verdict.only(("round", "apart", "round")).pairs(), [("apart", "b"), ("round", "a")])
        self.assertEqual(verdict.only(["no kind", "barred"]).pairs(), [])
        self.assertEqual(verdict.only([]).pairs(), [])
        self.assertEqual(len(verdict), 4)
        self.assertIsInstance(verdict.only(KINDS), Verdict)
        self.assertIsNot(verdict.only(KINDS), verdict)


class TestOperators(unittest.TestCase):
    def test_against_sets(self):
        source = random.Random(35)
        for _ in range(300):
            first, second = drawn_pairs(source), drawn_pairs(source)
            one, other = Verdict(first), Verdict(tuple(second))
            cases = (
                (one | other, set(first) | set(second)), (one & other, set(first) & set(second)),
                (one - other, set(first) - set(second)), (one ^ other, set(first) ^ set(second)),
            )
            for verdict, expected in cases:
                self.assertIsInstance(verdict, Verdict)
                self.assertEqual(set(verdict.pairs()), expected)
                self.assertEqual(verdict, Verdict(sorted(expected)))
                self.assertEqual(len(verdict), len(expected))
                self.assertEqual(bool(verdict), bool(expected))
                for pair in itertools.product(KINDS, PAGES):
                    self.assertEqual(pair in verdict, pair in expected)
            # Neither operand has changed.
            self.assertEqual((one, other), (Verdict(first), Verdict(second)))
            self.assertEqual(one == other, set(first) == set(second))
            self.assertEqual(one != other, set(first) != set(second))

    def test_equal(self):
        self.assertIs(Verdict([("late", "a"), ("late", "b")]) == Verdict((("late", "b"), ("late", "a"), ("late", "a"))), True)
        self.assertIs(Verdict([("late", "a")]) == Verdict([("late", "b")]), False)
        self.assertIs(Verdict([("late", "a")]) == Verdict([("apart", "a")]), False)
        self.assertIs(Verdict([("late", "a")]) == Verdict([]), False)
        self.assertIs(Verdict([]) == Verdict([]), True)


class TestItNeverChanges(unittest.TestCase):
    def test_lists_are_not_shared(self):
        given = [("late", "a"), ("apart", "b")]
        verdict = Verdict(given)
        self.assertEqual(given, [("late", "a"), ("apart", "b")])
        given.append(("round", "a"))
        for returned in (verdict.pairs(), verdict.kinds()):
            returned.append("more")
            del returned[0]
        kinds = ["late"]
        verdict.only(kinds)
        self.assertEqual(kinds, ["late"])
        self.assertEqual(verdict.pairs(), [("apart", "b"), ("late", "a")])
        self.assertEqual(verdict.kinds(), ["apart", "late"])
