"""Points 30 to 34 and 36: books and closed lists."""

import copy
import random
import unittest

from ledelsewhere.books import Book, is_closed, shows_free
from ledelsewhere.errors import InvalidBound, InvalidDeed, InvalidKind, LimitExceeded, NoFault, NoStanding
from ledelsewhere.judge import KINDS, faults
from ledelsewhere.routing import begin, step
from ledelsewhere.rules import Rule, all_rules
from ledelsewhere.sites import Site
from ledelsewhere.standings import deeds, is_standing
from ledelsewhere.verdicts import Verdict
from tests.helpers import ANY_VALUES, deep_value, made_site, replaced, same
from tests.plain_search import Plain, small_plains

SMALL = Site((), (("a", ((), (), False)), ("b", ((), (), True))), "a", keep=2)
RULE = Rule("first", "cancel")
# A lead row that is refused in the end, a bit that a guard sets, and an ask row that decides whether it is set.
ASKING = Site(
    ("in",),
    (
        ("home", ((), (), False)),
        ("desk", ((("ask", (("set", "in", True),), ()), ("if", "in", (), (("lead", "desk"),))), (), True)),
    ),
    "home",
    keep=2,
)
RACE = Rule("last", "race", again=True)
# A way waits at each of the four stages: home asks before it is left, and desk asks before it is entered and loads.
WAITING = Site(
    ("in",),
    (
        ("home", ((("set", "in", True),), (("if", "in", (("ask", (), (("refuse",),)),), ()),), False)),
        ("desk", ((("ask", (), (("refuse",),)), ("ask", (), ())), (), True)),
    ),
    "home",
    keep=2,
)
# For each stage what is not the position of a way that waits there.
NO_POSITIONS = {
    "leave": ((), (0,), (1,), (0, 0), (0, 0, 1), (0, 1, 0), (0, 0, False), [0, 0, 0], None),
    "enter": ((), (2,), (0, 1, 0), (0, 0, 0), (False,), (True,), [0], 0, None),
    "load": ((0,), (0, 0, 0), [], False, 0, None),
    "anew": ((), (2,), (0, 1, 0), (0, 0, 0), (False,), (True,), [1], 1, None),
}


def swapped(value):
    """The value with True in the place of 1, 0 in the place of False, and so on, wherever they stand in it."""
    if isinstance(value, bool):
        return int(value)
    if isinstance(value, int) and value in (0, 1):
        return bool(value)
    if isinstance(value, tuple):
        return tuple(swapped(item) for item in value)
    return value


def look_alikes(value):
    """Values that are equal to a standing for Python, but are none."""
    found = [swapped(value)]
    for at, item in enumerate(value):
        if isinstance(item, tuple):
            found.extend(replaced(value, at, other) for other in look_alikes(item))
        elif not same(swapped(item), item):
            found.append(replaced(value, at, swapped(item)))
    return [other for other in found if not same(other, value)]


def unlike(standing):
    """Values that are no standings although they are made of one."""
    return [list(standing), standing[:5], standing + ((),), (standing,), {standing[1]: standing}, [standing]]


def ways_that_cannot_wait(way):
    """Values that are made of a way of the site WAITING and are no ways there."""
    stage = way[1]
    found = [replaced(way, 2, other) for other in NO_POSITIONS[stage]]
    found.extend(replaced(way, 1, other) for other in (stage.upper(), stage + "s", "", None, 0, True, (stage,), [stage]))
    found.extend(replaced(way, 3, other) for other in (None, "no", "", ("home",), ["home"]))
    found.extend(replaced(way, 5, other) for other in (-1, len(way[4]), None, bool(way[5])))
    found.extend([way[:6], way + (0,), list(way), (), (way,)])
    return found


class TestAgainstThePlainSearch(unittest.TestCase):
    """The same standings in the same order, the same least runs, the same faults and least faults."""

    def assert_same(self, plain):
        book = Book(plain.site, plain.rule, flips=plain.flips)
        told = (plain.site.pages, str(plain.rule), plain.flips)
        self.assertTrue(same(book.standings(), plain.standings()), told)
        self.assertEqual(len(book), len(plain.keys))
        self.assertEqual(book.moves(), plain.moves)
        for standing, key in plain.keys.items():
            self.assertTrue(same(book.least_run(standing), plain.run_of(key)), told)
            self.assertIs(standing in book, True)
            for deed, made in zip(plain.moves, plain.steps_from(standing)):
                behind = None if isinstance(made, str) else made.after
                self.assertEqual(book.follow(standing, deed), behind)
        expected = plain.faults()
        self.assertEqual(book.faults(), list(expected), told)
        for fault, run in expected.items():
            self.assertTrue(same(book.least_fault(*fault), run), told)
        names = plain.site.page_names()
        for kind in KINDS:
            self.assertIs(book.is_free(kind), kind not in {known for known, page in expected})
            for page in names + ("no such",):
                if (kind, page) not in expected:
                    with self.assertRaises(NoFault) as caught:
                        book.least_fault(kind, page)
                    self.assertEqual((caught.exception.kind, caught.exception.page), (kind, page))
        self.assertEqual(book.verdict(), Verdict(list(expected)))
        return book

    def test_each_rule_with_and_without_flips(self):
        source = random.Random(32)
        seen = {}
        for rule in all_rules():
            for flips in (True, False):
                for plain in small_plains(source, rule, flips, 2):
                    book = self.assert_same(plain)
                    seen.update({kind: True for kind, page in book.faults()})
        self.assertEqual(set(seen), set(KINDS))

    def test_a_site_that_asks_and_sets(self):
        for rule in all_rules():
            # With late pages and flips together there are too many standings for a plain search.
            for flips in (False,) if rule.newer == "race" else (False, True):
                self.assert_same(Plain(ASKING, rule, flips))

    def test_deeds_between(self):
        source = random.Random(33)
        for rule in all_rules()[::4]:
            for flips in (True, False):
                [plain] = small_plains(source, rule, flips, 1, most=40)
                book = Book(plain.site, rule, flips=flips)
                for first in plain.standings():
                    least = self.least_deeds(plain, first)
                    for second in plain.standings():
                        self.assertEqual(book.deeds_between(first, second), least.get(second))

    def least_deeds(self, plain, first):
        """The least tuple of deeds from the standing to each other one."""
        keys = {first: (0, ())}
        todo = [first]
        while todo:
            standing = todo.pop()
            many, taken = keys[standing]
            for number, made in enumerate(plain.steps_from(standing)):
                key = (many + 1, taken + (number,))
                if not isinstance(made, str) and (made.after not in keys or key < keys[made.after]):
                    keys[made.after] = key
                    todo.append(made.after)
        return {standing: tuple(plain.moves[number] for number in taken) for standing, (many, taken) in keys.items()}


class TestRuns(unittest.TestCase):
    def test_runs_lead_where_the_book_says(self):
        book = Book(ASKING, RACE, flips=False)
        for standing in book.standings():
            flags, taken = book.least_run(standing)
            now = begin(ASKING, RACE, flags).after
            for deed in taken:
                now = book.follow(now, deed)
            self.assertEqual(now, standing)

    def test_starts_come_first_in_the_order_of_flags(self):
        site = Site(("in", "out"), SMALL.pages, "b")
        book = Book(site, RULE)
        flags = [(False, False), (False, True), (True, False), (True, True)]
        self.assertEqual(book.standings()[:4], [(one, "b", ("b",), 0, None, ()) for one in flags])
        for one in flags:
            self.assertTrue(same(book.least_run((one, "b", ("b",), 0, None, ())), (one, ())))

    def test_without_flips_no_bit_changes_by_itself(self):
        site = Site(("in",), SMALL.pages, "a", keep=2)
        with_flips, without = Book(site, RULE), Book(site, RULE, flips=False)
        self.assertIn(("flip", "in"), with_flips.moves())
        self.assertEqual(without.moves(), deeds(site, flips=False))
        self.assertEqual((len(with_flips), len(without)), (20, 20))
        first, second = without.standings()[:2]
        self.assertEqual(with_flips.deeds_between(first, second), (("flip", "in"),))
        self.assertIsNone(without.deeds_between(first, second))

    def test_a_deed_that_is_refused(self):
        loop = Site((), (("home", ((), (), False)), ("loop", ((("lead", "loop"),), (), False))), "home")
        book = Book(loop, RULE)
        [start] = book.standings()
        self.assertIsNone(book.follow(start, ("click", "loop")))
        self.assertEqual(book.follow(start, ("back",)), start)
        self.assertEqual(book.faults(), [("round", "loop")])
        self.assertTrue(same(book.least_fault("round", "loop"), ((), (("click", "loop"),))))
        self.assertIs(book.is_free("round"), False)
        self.assertIs(is_closed(loop, RULE, [start]), True)
        self.assertIs(shows_free(loop, RULE, [start], "round"), False)
        self.assertIs(shows_free(loop, RULE, [start], "apart"), True)

    def test_deeds_between_equal_standings(self):
        book = Book(SMALL, RULE)
        for standing in book.standings():
            self.assertEqual(book.deeds_between(standing, standing), ())


class TestAnyValues(unittest.TestCase):
    """Points 32 and 33 over values that are no standings of the book."""

    def assert_none(self, book, value):
        known = book.standings()[0]
        self.assertIs(value in book, False)
        calls = (
            lambda: book.least_run(value), lambda: book.follow(value, ("back",)), lambda: book.follow(value, "no deed"),
            lambda: book.deeds_between(value, known), lambda: book.deeds_between(known, value),
            lambda: book.deeds_between(value, value),
        )
        for call in calls:
            with self.assertRaises(NoStanding):
                call()

    def test_values_that_are_no_standings(self):
        book = Book(ASKING, RACE, flips=False)
        for value in ANY_VALUES + (deep_value(20), [deep_value(19)]):
            self.assert_none(book, value)
        for standing in book.standings()[::7]:
            for value in unlike(standing):
                self.assert_none(book, value)

    def test_values_that_look_like_standings(self):
        book = Book(ASKING, RACE, flips=False)
        many = 0
        for standing in book.standings():
            for value in look_alikes(standing):
                self.assertEqual(value, standing)
                self.assertIs(is_standing(ASKING, RACE, value), False)
                self.assertIs(value in book, False)
                many = many + 1
        for value in look_alikes(book.standings()[-1]):
            self.assert_none(book, value)
        self.assertGreater(many, len(book))

    def test_ways_at_each_stage(self):
        for rule in all_rules():
            plain = Plain(WAITING, rule, False)
            book = Book(WAITING, rule, flips=False)
            met = {standing[4][1]: standing for standing in plain.standings() if standing[4] is not None}
            # A way waits at the stage anew only if again is True.
            self.assertEqual(set(met), {"leave", "enter", "load"} | ({"anew"} if rule.again else set()))
            for standing in plain.standings():
                self.assertIs(standing in book, True)
            for stage, standing in met.items():
                with self.subTest(rule=str(rule), stage=stage):
                    self.assertIs(standing in book, True)
                    for way in ways_that_cannot_wait(standing[4]):
                        value = replaced(standing, 4, way)
                        self.assertIs(is_standing(WAITING, rule, value), False)
                        self.assertIs(value in book, False)
                    # No row of the site leads anywhere, so no run leads to a way that was led.
                    value = replaced(standing, 4, replaced(standing[4], 6, 5))
                    self.assertIs(is_standing(WAITING, rule, value), True)
                    self.assertIs(value in book, False)

    def test_standings_that_no_run_leads_to(self):
        book = Book(SMALL, RULE)
        value = ((), "b", ("a", "a"), 1, None, ())
        self.assertIs(is_standing(SMALL, RULE, value), True)
        self.assert_none(book, value)

    def test_follow_refuses_what_is_no_deed_of_the_book(self):
        book = Book(ASKING, RACE)
        without = Book(ASKING, RACE, flips=False)
        start = book.standings()[0]
        wrong = (("answer", 1), ("load", 0), ("late", True, True), ("late", 0, 1), ("click", "no"), ["back"], ("back", ()))
        for deed in ANY_VALUES + wrong + (deep_value(20), ("flip", "out")):
            with self.subTest(deed=deed), self.assertRaises(InvalidDeed) as caught:
                book.follow(start, deed)
            self.assertIs(caught.exception.deed, deed)
        self.assertIn(book.follow(start, ("flip", "in")), book)
        with self.assertRaises(InvalidDeed) as caught:
            without.follow(start, ("flip", "in"))
        self.assertEqual(caught.exception.deed, ("flip", "in"))
        # Of two things that are wrong the standing comes first.
        with self.assertRaises(NoStanding):
            without.follow(None, ("flip", "in"))


class TestKinds(unittest.TestCase):
    def test_is_free_refuses_what_is_no_kind(self):
        book = Book(SMALL, RULE)
        for kind in ("", "no kind", "Apart", "a"):
            with self.assertRaises(InvalidKind) as caught:
                book.is_free(kind)
            self.assertEqual(caught.exception.kind, kind)

    def test_faults_by_kinds_then_by_pages(self):
        pages = (("z", ((), (), True)), ("b", ((), (), True)), ("a", ((), (), True)))
        book = Book(Site((), pages, "b", keep=2), Rule("first", "race"))
        self.assertEqual(book.faults(), [("apart", "z"), ("apart", "b"), ("apart", "a"), ("late", "z"), ("late", "b"), ("late", "a")])
        self.assertEqual(book.verdict().pairs(), sorted(book.faults()))

    def test_no_fault(self):
        book = Book(SMALL, RULE)
        for kind, page in (("apart", "b"), ("late", "a"), ("apart", ""), ("no kind", "a"), ("a", "apart")):
            with self.assertRaises(NoFault) as caught:
                book.least_fault(kind, page)
            self.assertEqual((caught.exception.kind, caught.exception.page), (kind, page))


class TestLimit(unittest.TestCase):
    def test_what_is_no_bound(self):
        values = (None, True, False, 0, -1, 10001, 10 ** 30, "2000", (), [2000], {}, deep_value(20))
        for value in values:
            with self.subTest(value=value), self.assertRaises(InvalidBound) as caught:
                Book(SMALL, RULE, limit=value)
            self.assertIs(caught.exception.value, value)

    def test_the_very_number_of_standings(self):
        source = random.Random(34)
        for rule in all_rules()[::5]:
            for plain in small_plains(source, rule, True, 2):
                many = len(plain.keys)
                self.assertEqual(len(Book(plain.site, rule, limit=many)), many)
                self.assertEqual(len(Book(plain.site, rule, limit=many + 1)), many)
                for limit in (many - 1, 1):
                    with self.assertRaises(LimitExceeded) as caught:
                        Book(plain.site, rule, limit=limit)
                    self.assertEqual(caught.exception.limit, limit)

    def test_the_starts_count(self):
        site = Site(("in", "out"), (("a", ((("refuse",),), (), False)), ("b", ((("refuse",),), (), False))), "a")
        self.assertEqual(len(Book(site, RULE, limit=4)), 4)
        with self.assertRaises(LimitExceeded):
            Book(site, RULE, limit=3)
        self.assertEqual(len(Book(Site((), site.pages, "a"), RULE, limit=1)), 1)

    def test_the_default(self):
        # Behind each flags there are 250 standings without flips, so with three bits there are 2000 in all.
        pages = (("a", ((), (), True)), ("b", ((), (), False)))
        site = Site(("in", "out", "c"), pages, "a")
        book = Book(site, Rule("last", "race"))
        self.assertTrue(same((len(book), book.limit), (2000, 2000)))
        with self.assertRaises(LimitExceeded) as caught:
            Book(site, Rule("last", "race"), limit=1999)
        self.assertEqual(caught.exception.limit, 1999)
        larger = Site((), pages + (("c", ((), (), False)),), "a")
        with self.assertRaises(LimitExceeded) as caught:
            Book(larger, Rule("last", "race"))
        self.assertEqual(caught.exception.limit, 2000)
        self.assertEqual(len(Book(larger, Rule("last", "race"), limit=2033)), 2033)

    def test_the_greatest(self):
        pages = tuple((name, ((), (), name in "ab")) for name in "abcd")
        site = Site((), pages, "a", keep=3)
        self.assertEqual(len(Book(site, Rule("last", "race"), limit=10000)), 9994)
        with self.assertRaises(LimitExceeded) as caught:
            Book(Site(("in",), pages, "a", keep=3), Rule("last", "race"), limit=10000)
        self.assertEqual(caught.exception.limit, 10000)


class TestClosedLists(unittest.TestCase):
    def assert_judged(self, plain, value, expected):
        """is_closed and shows_free judge as a plain look at each item does."""
        self.assertIs(is_closed(plain.site, plain.rule, value, flips=plain.flips), expected)
        kinds = set(KINDS)
        if expected:
            for item in value:
                for made in plain.steps_from(item):
                    if isinstance(made, str):
                        kinds.discard("round")
                    else:
                        kinds -= {kind for kind, page in faults(plain.site, plain.rule, made)}
        for kind in KINDS:
            shown = shows_free(plain.site, plain.rule, value, kind, flips=plain.flips)
            self.assertIs(shown, expected and kind in kinds, kind)
        return kinds

    def test_standings_of_books(self):
        source = random.Random(36)
        for rule in all_rules():
            for plain in small_plains(source, rule, source.choice((True, False)), 1):
                known = plain.standings()
                book = Book(plain.site, rule, flips=plain.flips)
                shown = self.assert_judged(plain, known, True)
                self.assertEqual(shown, {kind for kind in KINDS if book.is_free(kind)})
                source.shuffle(known)
                self.assertEqual(self.assert_judged(plain, known + known[:5], True), shown)
                at = source.randrange(len(known))
                self.assert_judged(plain, known[:at] + known[at + 1:], False)
                self.assert_judged(plain, known + [source.choice(ANY_VALUES)], False)
                self.assert_judged(plain, tuple(known), False)

    def test_each_standing_is_needed(self):
        known = Book(ASKING, RACE, flips=False).standings()
        self.assertIs(is_closed(ASKING, RACE, known, flips=False), True)
        for at in range(len(known)):
            self.assertIs(is_closed(ASKING, RACE, known[:at] + known[at + 1:], flips=False), False)

    def test_standings_that_no_run_leads_to(self):
        plain = Plain(SMALL, RULE, True)
        known = plain.standings()
        self.assertIs(is_closed(SMALL, RULE, known), True)
        other = ((), "a", ("b", "b"), 0, None, ())
        self.assertNotIn(other, known)
        # Alone it leads elsewhere, and with all that follows the list is closed again, but shows less.
        self.assert_judged(plain, known + [other], False)
        more = known + [other]
        for item in more:
            more.extend(made.after for made in plain.steps_from(item) if made.after not in more)
        self.assertGreater(len(more), len(known) + 1)
        shown = self.assert_judged(plain, more, True)
        self.assertEqual(self.assert_judged(plain, known, True) - shown, {"doubled"})

    def test_flips_are_deeds_only_if_they_are_wanted(self):
        site = Site(("in",), (("a", ((), (), False)), ("b", ((("if", "in", (("refuse",),), ()),), (), False))), "a", keep=2)
        rule = Rule("first", "cancel", backs=False)
        known = Book(site, rule, flips=False).standings()
        self.assertIs(is_closed(site, rule, known, flips=False), True)
        self.assertIs(is_closed(site, rule, known, flips=True), False)
        self.assertIs(is_closed(site, rule, known), False)
        self.assertIs(shows_free(site, rule, known, "barred", flips=False), True)
        self.assertIs(shows_free(site, rule, known, "barred"), False)

    def test_starts_are_needed(self):
        site = Site(("in",), (("a", ((("refuse",),), (), False)), ("b", ((("refuse",),), (), False))), "a")
        starts = [((flag,), "a", ("a",), 0, None, ()) for flag in (False, True)]
        self.assertIs(is_closed(site, RULE, starts[::-1], flips=False), True)
        for one in starts:
            self.assertIs(is_closed(site, RULE, [one], flips=False), False)
        self.assertIs(is_closed(site, RULE, []), False)

    def test_any_values(self):
        for value in ANY_VALUES + (deep_value(20), [deep_value(19)], [[]], [None]):
            self.assertIs(is_closed(SMALL, RULE, value), False)
            self.assertIs(shows_free(SMALL, RULE, value, "late"), False)

    def test_look_alikes_are_no_items(self):
        known = Book(ASKING, RACE, flips=False).standings()
        self.assertIs(is_closed(ASKING, RACE, known, flips=False), True)
        for standing in known[::9]:
            for value in look_alikes(standing) + unlike(standing):
                self.assertIs(is_closed(ASKING, RACE, known + [value], flips=False), False)

    def test_shows_free_refuses_what_is_no_kind(self):
        for value in (Book(SMALL, RULE).standings(), [], None, (), "late"):
            for kind in ("", "no kind", "Late"):
                with self.assertRaises(InvalidKind) as caught:
                    shows_free(SMALL, RULE, value, kind)
                self.assertEqual(caught.exception.kind, kind)


class TestItNeverChanges(unittest.TestCase):
    def all_of(self, book):
        return (
            book.standings(), book.moves(), book.faults(), book.verdict().pairs(), len(book), book.limit, book.flips,
            [book.least_run(standing) for standing in book.standings()],
        )

    def test_attributes_are_those_that_were_passed(self):
        for flips in (True, False):
            book = Book(ASKING, RACE, flips=flips, limit=1999)
            self.assertIs(book.site, ASKING)
            self.assertIs(book.rule, RACE)
            self.assertTrue(same((book.flips, book.limit), (flips, 1999)))
        self.assertTrue(same(Book(SMALL, RULE).flips, True))

    def test_returned_lists_are_new(self):
        book = Book(ASKING, RACE, flips=False)
        before = copy.deepcopy(self.all_of(book))
        for returned in (book.standings(), book.moves(), book.faults()):
            returned.append("more")
            del returned[0]
        self.assertEqual(self.all_of(book), before)

    def test_lists_that_are_judged_are_not_changed(self):
        known = Book(ASKING, RACE, flips=False).standings()
        given = known + known[:3]
        before = list(given)
        is_closed(ASKING, RACE, given)
        shows_free(ASKING, RACE, given, "late")
        self.assertEqual(given, before)

    def test_steps_do_what_the_book_says(self):
        book = Book(SMALL, RULE)
        for standing in book.standings():
            for deed in book.moves():
                self.assertEqual(book.follow(standing, deed), step(SMALL, RULE, standing, deed).after)
