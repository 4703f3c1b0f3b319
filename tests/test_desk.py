"""Point 45: desks."""

import random
import unittest

from ledelsewhere.books import Book
from ledelsewhere.desk import Desk
from ledelsewhere.errors import (
    InvalidBound, InvalidKind, InvalidPath, InvalidRules, InvalidSide, InvalidSite, LedError, NothingToRedo, NothingToUndo,
    UnknownPage,
)
from ledelsewhere.judge import KINDS
from ledelsewhere.rules import Rule, all_rules
from ledelsewhere.sites import Site
from ledelsewhere.verdicts import Verdict
from tests.helpers import ANY_VALUES, deep_value, same

REFUSE = ("refuse",)
ASK = ("ask", (), (REFUSE,))
SITE = Site((), (("a", ((), (ASK,), False)), ("b", ((REFUSE,), (), True))), "a", keep=2)
OTHER = Site(("in",), (("a", ((), (), True)), ("b", ((), (("set", "in", True),), False))), "b", keep=3)
RULES = [Rule("first", "cancel"), Rule("last", "race"), Rule("last", "ignore", again=True)]
B_ENTER = ("b", "enter", (0,))
A_LEAVE = ("a", "leave", (0,))
NO_BOUNDS = (None, True, False, 0, -1, 10001, 10 ** 30, "2000", (), [2000], {}, deep_value(20))


def watching(desk, *kinds):
    """The desk with these kinds watched."""
    for kind in kinds:
        desk |= kind
    return desk


def verdicts_of(site, rules, kinds, flips=True, limit=2000):
    """What a desk should tell."""
    found = []
    for rule in rules:
        book = Book(site, rule, flips=flips, limit=10000)
        pairs = [(kind, page) for kind, page in book.faults() if kind in kinds]
        found.append(Verdict(pairs) if len(book) <= limit else None)
    return found


def all_of(desk):
    """All that can be seen of a desk, but for what can be done again."""
    site = desk.current
    return site.bits, site.pages, site.start, site.keep, desk.watched, desk.bound, len(desk)


def history_of(desk):
    """The sites of all edits, found by undoing and redoing them all; the desk is as it was afterwards."""
    here = len(desk)
    sites = [desk.current]
    while True:
        try:
            desk.redo()
        except NothingToRedo:
            break
        sites.append(desk.current)
    while len(desk) > 0:
        desk.undo()
        sites.append(desk.current)
    while len(desk) < here:
        desk.redo()
    return [site.pages for site in sites]


class TestCreation(unittest.TestCase):
    def test_at_first(self):
        desk = Desk(SITE, RULES)
        self.assertIs(desk.current, SITE)
        self.assertTrue(same((desk.watched, desk.bound, len(desk)), ((), 2000, 0)))
        self.assertEqual(Desk(SITE, tuple(RULES), flips=False, limit=17).bound, 17)

    def test_errors_in_their_order(self):
        for value in NO_BOUNDS:
            for rules in ([], RULES, RULES * 3):
                with self.assertRaises(InvalidBound) as caught:
                    Desk(SITE, rules, limit=value)
                self.assertIs(caught.exception.value, value)
        for rules in ([], (), all_rules()[:7], tuple(all_rules())):
            with self.assertRaises(InvalidRules):
                Desk(SITE, rules)
        for many in range(1, 7):
            self.assertEqual(len(Desk(SITE, all_rules()[:many]).verdicts()), many)
        for limit in (1, 10000):
            self.assertEqual(Desk(SITE, RULES, limit=limit).bound, limit)

    def test_the_rules_are_those_that_were_passed(self):
        rules = list(RULES)
        desk = watching(Desk(SITE, rules), "apart", "late")
        before = desk.verdicts()
        rules[0] = Rule("last", "cancel")
        rules.append(Rule("last", "cancel"))
        self.assertEqual(desk.verdicts(), before)
        rules.clear()
        self.assertEqual(desk.attempt([]), before)


class TestWatching(unittest.TestCase):
    def test_kinds_stand_in_their_order(self):
        desk = Desk(SITE, RULES)
        same_desk = desk
        for kind in ("round", "apart", "late", "apart", "round"):
            desk |= kind
        self.assertIs(desk, same_desk)
        self.assertEqual(desk.watched, ("apart", "late", "round"))
        desk -= "late"
        desk -= "late"
        desk -= "barred"
        self.assertIs(desk, same_desk)
        self.assertEqual(same_desk.watched, ("apart", "round"))
        for kind in KINDS[::-1]:
            desk |= kind
        self.assertEqual(desk.watched, KINDS)
        for kind in KINDS:
            desk -= kind
        self.assertEqual(desk.watched, ())

    def test_what_is_no_kind(self):
        desk = watching(Desk(SITE, RULES), "late")
        for kind in ("", "no kind", "Late", "a"):
            with self.assertRaises(InvalidKind) as caught:
                desk |= kind
            self.assertEqual(caught.exception.kind, kind)
            with self.assertRaises(InvalidKind) as caught:
                desk -= kind
            self.assertEqual(caught.exception.kind, kind)
        self.assertEqual(desk.watched, ("late",))

    def test_it_is_no_edit(self):
        desk = Desk(SITE, RULES)
        desk.put_site(OTHER)
        desk.undo()
        watching(desk, "late")
        desk -= "late"
        desk.set_bound(5)
        self.assertEqual(len(desk), 0)
        desk.redo()
        self.assertIs(desk.current, OTHER)
        self.assertEqual((desk.watched, desk.bound), ((), 5))


class TestBound(unittest.TestCase):
    def test_set_bound(self):
        desk = Desk(SITE, RULES)
        for value in (1, 10000, 77):
            self.assertIsNone(desk.set_bound(value))
            self.assertTrue(same(desk.bound, value))
        for value in NO_BOUNDS:
            with self.subTest(value=value), self.assertRaises(InvalidBound) as caught:
                desk.set_bound(value)
            self.assertIs(caught.exception.value, value)
            self.assertEqual(desk.bound, 77)


class TestEdits(unittest.TestCase):
    def test_reading_rows(self):
        desk = Desk(SITE, RULES)
        self.assertEqual(desk[B_ENTER], REFUSE)
        self.assertEqual(desk[A_LEAVE], ASK)
        self.assertEqual(desk["a", "leave", (0, 1, 0)], REFUSE)
        desk.put_site(OTHER)
        self.assertEqual(desk[("b", "leave", (0,))], ("set", "in", True))
        for path in ANY_VALUES + (B_ENTER, ("b", "leave", (False,)), ("b", "leave", ()), list(B_ENTER), deep_value(20)):
            with self.subTest(path=path), self.assertRaises(InvalidPath) as caught:
                desk[path]
            self.assertTrue(same(caught.exception.path, path))

    def test_each_edit(self):
        desk = Desk(SITE, RULES)
        desk[B_ENTER] = ("lead", "a")
        self.assertEqual(desk.current, SITE.with_row(B_ENTER, ("lead", "a")))
        self.assertEqual(len(desk), 1)
        self.assertIsNone(desk.put_guard("a", "enter", (ASK, REFUSE)))
        self.assertEqual(desk.current.guard("a", "enter"), (ASK, REFUSE))
        self.assertEqual(desk[("a", "enter", (1,))], REFUSE)
        self.assertEqual(desk[B_ENTER], ("lead", "a"))
        self.assertIsNone(desk.put_site(OTHER))
        self.assertIs(desk.current, OTHER)
        self.assertEqual(len(desk), 3)
        self.assertEqual((SITE.guard("b", "enter"), SITE.guard("a", "enter")), ((REFUSE,), ()))

    def test_an_edit_that_changes_nothing_is_an_edit(self):
        desk = Desk(SITE, RULES)
        desk[B_ENTER] = REFUSE
        desk.put_guard("b", "enter", (REFUSE,))
        desk.put_site(SITE)
        self.assertEqual((len(desk), desk.current), (3, SITE))

    def test_edits_that_raise(self):
        desk = watching(Desk(SITE, RULES), "late")
        desk.put_site(OTHER)
        desk.put_site(SITE)
        desk.undo()
        desk.put_site(SITE)
        desk.put_site(OTHER)
        desk.undo()
        before, sites = all_of(desk), history_of(desk)
        calls = [
            (InvalidPath, lambda: desk.__setitem__(None, REFUSE)),
            (InvalidPath, lambda: desk.__setitem__(("b", "enter", (1,)), None)),
            (InvalidSite, lambda: desk.__setitem__(B_ENTER, None)),
            (InvalidSite, lambda: desk.__setitem__(A_LEAVE, ("lead", "a"))),
            (UnknownPage, lambda: desk.put_guard("c", "enter", ())),
            (UnknownPage, lambda: desk.put_guard(None, None, None)),
            (InvalidSide, lambda: desk.put_guard("a", "Enter", None)),
            (InvalidSite, lambda: desk.put_guard("a", "enter", [REFUSE])),
            (InvalidSite, lambda: desk.put_guard("a", "enter", (REFUSE,) * 9)),
        ]
        for error, call in calls:
            with self.assertRaises(error):
                call()
            self.assertEqual((all_of(desk), history_of(desk)), (before, sites))
        with self.assertRaises(InvalidSite) as caught:
            desk[A_LEAVE] = ("lead", "a")
        self.assertEqual((caught.exception.part, caught.exception.path), ("rows", A_LEAVE))
        with self.assertRaises(InvalidSite) as caught:
            desk.put_guard("b", "leave", (REFUSE,) * 9)
        self.assertEqual((caught.exception.part, caught.exception.path), ("many", ("b", "leave", ())))

    def test_a_desk_is_not_iterated_over(self):
        with self.assertRaises(TypeError):
            list(Desk(SITE, RULES))


class TestUndoAndRedo(unittest.TestCase):
    def test_nothing_to_undo_and_nothing_to_redo(self):
        desk = Desk(SITE, RULES)
        for _ in range(2):
            with self.assertRaises(NothingToUndo):
                desk.undo()
            with self.assertRaises(NothingToRedo):
                desk.redo()
        desk.put_site(OTHER)
        with self.assertRaises(NothingToRedo):
            desk.redo()
        self.assertIsNone(desk.undo())
        with self.assertRaises(NothingToUndo):
            desk.undo()
        self.assertIs(desk.current, SITE)
        self.assertIsNone(desk.redo())
        self.assertIs(desk.current, OTHER)

    def test_a_new_edit_empties_what_can_be_done_again(self):
        for edit in (
            lambda desk: desk.put_site(SITE), lambda desk: desk.put_guard("a", "enter", ()),
            lambda desk: desk.__setitem__(B_ENTER, REFUSE),
        ):
            desk = Desk(SITE, RULES)
            desk.put_site(OTHER)
            desk.put_site(OTHER)
            desk.undo()
            desk.undo()
            edit(desk)
            with self.assertRaises(NothingToRedo):
                desk.redo()
            self.assertEqual(len(desk), 1)

    def test_drawn_edits(self):
        source = random.Random(45)
        for _ in range(40):
            desk = Desk(SITE, RULES)
            before, after = [], []
            now = SITE
            for _ in range(40):
                what = source.choice(("row", "guard", "site", "undo", "undo", "redo", "wrong"))
                rows = source.choice(((), (REFUSE,), (ASK,), (ASK, REFUSE)))
                paths = now.row_paths()
                if what == "row" and paths:
                    path = source.choice(paths)
                    desk[path] = source.choice((REFUSE, ASK)) if len(path[2]) == 1 else REFUSE
                    made = desk.current
                    self.assertEqual(made, now.with_row(path, made.row_at(path)))
                elif what == "guard":
                    desk.put_guard("b", "enter", rows)
                    made = now.with_guard("b", "enter", rows)
                elif what == "site":
                    made = source.choice((SITE, SITE.with_guard("a", "leave", rows)))
                    desk.put_site(made)
                elif what == "undo" and before:
                    desk.undo()
                    after.append(now)
                    now = before.pop()
                elif what == "redo" and after:
                    desk.redo()
                    before.append(now)
                    now = after.pop()
                else:
                    with self.assertRaises(LedError):
                        desk[None] = REFUSE
                if what in ("guard", "site") or what == "row" and paths:
                    before.append(now)
                    now, after = made, []
                self.assertEqual((desk.current, len(desk)), (now, len(before)))


class TestVerdicts(unittest.TestCase):
    def test_of_now(self):
        desk = Desk(SITE, RULES)
        self.assertEqual(desk.verdicts(), [Verdict([])] * 3)
        for step in range(6):
            if step == 1:
                watching(desk, "apart", "late")
            if step == 2:
                desk.put_guard("b", "enter", ())
            if step == 3:
                watching(desk, *KINDS)
                desk -= "apart"
            if step == 4:
                desk.set_bound(20)
            if step == 5:
                desk.undo()
            expected = verdicts_of(desk.current, RULES, desk.watched, True, desk.bound)
            self.assertEqual(desk.verdicts(), expected, step)
        self.assertEqual(watching(Desk(SITE, RULES), *KINDS).verdicts(), verdicts_of(SITE, RULES, KINDS))

    def test_only_the_watched_kinds(self):
        site = SITE.with_guard("b", "enter", ())
        for kind in KINDS:
            [verdict] = watching(Desk(site, [Rule("first", "race")]), kind).verdicts()
            self.assertIsInstance(verdict, Verdict)
            self.assertLessEqual(set(verdict.kinds()), {kind})
        [first, second, third] = watching(Desk(site, RULES), "apart").verdicts()
        self.assertEqual((len(first) > 0, len(second) > 0, len(third)), (True, True, 0))

    def test_more_standings_than_the_bound(self):
        sizes = [len(Book(SITE, rule)) for rule in RULES]
        for bound in sorted({1, min(sizes), max(sizes) - 1, max(sizes)}):
            desk = watching(Desk(SITE, RULES, limit=bound), "apart")
            self.assertEqual(desk.verdicts(), verdicts_of(SITE, RULES, ["apart"], True, bound))
            again = Desk(SITE, RULES)
            again.set_bound(bound)
            # Also if no kind is watched.
            self.assertEqual([one is None for one in again.verdicts()], [size > bound for size in sizes])

    def test_flips_are_passed_on(self):
        rows = (("if", "in", (REFUSE,), ()),)
        site = Site(("in",), (("a", ((), (), False)), ("b", (rows, (), False))), "a", keep=2)
        rules = [Rule("first", "cancel", backs=False)]
        self.assertEqual(watching(Desk(site, rules), "barred").verdicts(), [Verdict([("barred", "b")])])
        self.assertEqual(watching(Desk(site, rules, flips=True), "barred").verdicts(), [Verdict([("barred", "b")])])
        desk = watching(Desk(site, rules, flips=False), "barred")
        self.assertEqual((desk.verdicts(), desk.attempt([])), ([Verdict([])], [Verdict([])]))

    def test_a_returned_list_is_new(self):
        desk = watching(Desk(SITE, RULES), "apart")
        before = desk.verdicts()
        desk.verdicts().clear()
        desk.attempt([]).clear()
        self.assertEqual((desk.verdicts(), desk.attempt([])), (before, before))


class TestAttempt(unittest.TestCase):
    def ready_desk(self):
        """A desk on which one edit can be undone and one can be done again."""
        desk = watching(Desk(OTHER, RULES), *KINDS)
        desk.put_site(SITE)
        desk.put_site(OTHER)
        desk.undo()
        return desk

    def test_it_tells_of_the_site_behind_the_edits(self):
        desk = self.ready_desk()
        before, sites = all_of(desk), history_of(desk)
        edits = [(B_ENTER, ASK), (("b", "enter", (0, 1, 0)), ("lead", "a")), (A_LEAVE, ("ask", (), ()))]
        for many in range(4):
            site = SITE
            for path, row in edits[:many]:
                site = site.with_row(path, row)
            expected = verdicts_of(site, RULES, KINDS)
            self.assertEqual(desk.attempt(edits[:many]), expected)
            self.assertEqual(desk.attempt(tuple(edits[:many])), expected)
            self.assertEqual((all_of(desk), history_of(desk)), (before, sites))
            given = list(edits[:many])
            desk.attempt(given)
            self.assertEqual(given, edits[:many])
        self.assertNotEqual(desk.attempt(edits), desk.verdicts())

    def test_bound_and_kinds_of_now(self):
        desk = self.ready_desk()
        desk.set_bound(1)
        self.assertEqual(desk.attempt([(B_ENTER, ("lead", "b"))]), verdicts_of(SITE.with_row(B_ENTER, ("lead", "b")), RULES, KINDS, True, 1))
        desk.set_bound(2000)
        desk -= "round"
        without = desk.attempt([(B_ENTER, ("lead", "b"))])
        self.assertTrue(all("round" not in verdict.kinds() for verdict in without))
        watching(desk, "round")
        self.assertEqual([verdict.kinds()[-1] for verdict in desk.attempt([(B_ENTER, ("lead", "b"))])], ["round"] * 3)

    def test_what_the_first_edit_that_fails_raises(self):
        desk = self.ready_desk()
        before, sites = all_of(desk), history_of(desk)
        cases = (
            ([(B_ENTER, ASK), (None, REFUSE), (B_ENTER, None)], InvalidPath, None),
            ([(B_ENTER, ASK), (("b", "enter", (1,)), REFUSE)], InvalidPath, ("b", "enter", (1,))),
            ([(("b", "enter", (0, 1, 0)), REFUSE), (B_ENTER, ASK)], InvalidPath, ("b", "enter", (0, 1, 0))),
            ([(B_ENTER, ASK), (A_LEAVE, ("lead", "a")), (None, None)], InvalidSite, A_LEAVE),
        )
        for edits, error, path in cases:
            with self.assertRaises(error) as caught:
                desk.attempt(edits)
            self.assertEqual(caught.exception.path, path)
            self.assertEqual((all_of(desk), history_of(desk)), (before, sites))
        self.assertEqual(desk[B_ENTER], REFUSE)
