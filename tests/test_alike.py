"""Points 37 to 40: pairings, differences, partings and classes."""

import copy
import random
import unittest

from ledelsewhere.alike import alike, classes, difference, is_pairing, pairing, parting, rules_alike
from ledelsewhere.books import Book
from ledelsewhere.errors import InvalidBound, InvalidRules, LimitExceeded, NoStanding, NotComparable
from ledelsewhere.rules import Rule, all_rules
from ledelsewhere.sites import Site
from ledelsewhere.standings import all_flags, is_standing
from tests.helpers import ANY_VALUES, deep_value, made_rows, made_site, same
from tests.plain_search import Plain, PlainPairs, in_view, small_plains

PAGES = (("a", ((), (), False)), ("b", ((), (), True)))
SMALL = Site((), PAGES, "a", keep=2)
FIRST = (SMALL, Rule("first", "cancel"))
LAST = (SMALL, Rule("last", "cancel"))
# Alike to FIRST: without lead rows it does not matter what lead says.
INSTEAD = (SMALL, Rule("first", "cancel", lead="instead"))
NO_BOUNDS = (None, True, False, 0, -1, 20001, 10 ** 30, "5000", (), [5000], {}, deep_value(20))


def two_small(source):
    """Two Plain that can be compared: of one site, or of two sites whose guards, loads, starts and keeps differ a bit."""
    flips = source.choice((True, False))
    [first] = small_plains(source, source.choice(all_rules()), flips, 1, most=60, most_rows=3)
    site, rule = first.site, first.rule
    if source.randint(0, 1) == 0:
        rule = source.choice(all_rules()).with_part("newer", rule.newer)
    if source.randint(0, 1) == 0:
        site = changed_site(source, site)
    return first, Plain(site, rule, flips, most=0)


def changed_site(source, site):
    """The site with another guard, another loads, another keep or another start."""
    names = site.page_names()
    what = source.choice(("guard", "guard", "guard", "loads", "keep", "start"))
    page = source.choice(names)
    if what == "guard" and site.bits:
        side = source.choice(("enter", "leave"))
        words = ("if", "ask", "set", "refuse") + (("lead",) if side == "enter" else ())
        return site.with_guard(page, side, made_rows(source, 3, words, site.bits, names))
    if what == "loads":
        pages = tuple((name, (one, other, loads != (name == page))) for name, (one, other, loads) in site.pages)
        return Site(site.bits, pages, site.start, keep=site.keep)
    return Site(site.bits, site.pages, page if what == "start" else site.start, keep=3 if what == "keep" else site.keep)


def plain_is_pairing(first, second, value):
    """What point 37 says, word by word; the two are Plain and the items are tuples of two of their standings."""
    for flags in all_flags(first.site):
        starts = [(flags, plain.site.start, (plain.site.start,), 0, None, ()) for plain in (first, second)]
        if tuple(starts) not in value:
            return False
    for one, other in value:
        if in_view(one) != in_view(other):
            return False
        for made, beside in zip(first.steps_from(one), second.steps_from(other)):
            if isinstance(made, str) != isinstance(beside, str):
                return False
            if not isinstance(made, str) and (made.after, beside.after) not in value:
                return False
    return True


class TestAgainstThePlainSearch(unittest.TestCase):
    def test_differences_and_pairings(self):
        source = random.Random(38)
        seen = {True: 0, False: 0}
        lengths = set()
        for _ in range(200):
            one, other = two_small(source)
            plain = PlainPairs(one, other)
            first, second, flips = (one.site, one.rule), (other.site, other.rule), one.flips
            told = (first[0].pages, str(first[1]), second[0].pages, str(second[1]), flips)
            run, kept = plain.least_run(), plain.kept()
            self.assertTrue(same(difference(first, second, flips=flips), run), told)
            self.assertIs(alike(first, second, flips=flips), run is None)
            self.assertTrue(same(pairing(first, second, flips=flips), kept if run is None else None), told)
            seen[run is None] += 1
            if run is not None:
                lengths.add(len(run[1]))
            self.assert_limit(first, second, flips, len(kept))
            self.assert_pairings(source, one, other, kept)
        self.assertTrue(min(seen.values()) >= 30, seen)
        self.assertTrue({0, 1, 2, 3} <= lengths, lengths)

    def assert_limit(self, first, second, flips, many):
        """The limit may be the number of tuples that are found ahead of the difference, but no less."""
        for function in (difference, alike, pairing):
            if many > 0:
                function(first, second, flips=flips, limit=many)
            if many > 1:
                with self.assertRaises(LimitExceeded) as caught:
                    function(first, second, flips=flips, limit=many - 1)
                self.assertEqual(caught.exception.limit, many - 1)

    def assert_pairings(self, source, one, other, kept):
        """is_pairing judges lists that are more or less like the tuples that were kept."""
        first, second, flips = (one.site, one.rule), (other.site, other.rule), one.flips
        lists = [kept, kept + kept[:3], kept[:-1], kept[1:], kept + [(pair[1], pair[0]) for pair in kept[-1:]]]
        for value in lists + [source.sample(kept, len(kept))]:
            expected = all(fits(one, other, pair) for pair in value) and plain_is_pairing(one, other, value)
            self.assertIs(is_pairing(first, second, value, flips=flips), expected)
        self.assertIs(is_pairing(first, second, tuple(kept), flips=flips), False)

    def test_partings_and_classes(self):
        source = random.Random(40)
        lengths = set()
        joined = 0
        for rule in all_rules():
            for plain in small_plains(source, rule, source.choice((True, False)), 1, most=30):
                book = Book(plain.site, rule, flips=plain.flips)
                words = least_words(plain)
                known = book.standings()
                for one in known:
                    for other in known:
                        found = parting(book, one, other)
                        self.assertTrue(same(found, words[(one, other)]), (plain.site.pages, str(rule), one, other))
                        lengths.add(None if found is None else len(found))
                groups = classes(book)
                expected = []
                for at, one in enumerate(known):
                    like = [number for number, other in enumerate(known) if words[(one, other)] is None]
                    if like[0] == at:
                        expected.append(like)
                self.assertEqual(groups, expected)
                joined += len(known) - len(groups)
        self.assertTrue({None, 0, 1, 2, 3} <= lengths, lengths)
        self.assertGreater(joined, 50)

    def test_rules_alike(self):
        source = random.Random(41)
        many = set()
        for _ in range(60):
            flips = source.choice((True, False))
            [plain] = small_plains(source, source.choice(all_rules()), flips, 1, most=40, most_rows=3)
            rules = [plain.rule.with_part("lead", source.choice(("put", "instead"))) for _ in range(source.randint(0, 2))]
            rules += source.sample([rule for rule in all_rules() if rule.newer != "race"], source.randint(1, 4))
            groups = []
            for at, rule in enumerate(rules):
                pairs = ((group, (plain.site, rules[group[0]])) for group in groups)
                like = [group for group, first in pairs if alike(first, (plain.site, rule), flips=flips)]
                if like:
                    like[0].append(at)
                else:
                    groups.append([at])
            self.assertEqual(rules_alike(plain.site, rules, flips=flips), groups)
            self.assertEqual(rules_alike(plain.site, tuple(rules), flips=flips), groups)
            many.add(len(groups))
        self.assertTrue({1, 2, 3} <= many, many)


def fits(one, other, pair):
    """True if the two standings are standings of the two sides."""
    return is_standing(one.site, one.rule, pair[0]) and is_standing(other.site, other.rule, pair[1])


def least_words(plain):
    """For each two standings the least tuple of deeds that shows a difference, or None, found from the back.

    In each round the words may get one deed longer, so the first word that is found for two standings has fewest deeds.
    """
    known = plain.standings()
    words = {(one, other): () if in_view(one) != in_view(other) else None for one in known for other in known}
    numbers = {pair: () for pair, word in words.items() if word is not None}
    better = True
    while better:
        better = {}
        for pair in words:
            if pair not in numbers:
                found = [number for number in words_behind(plain, pair, numbers) if number is not None]
                if found:
                    better[pair] = min(found)
        numbers.update(better)
    return {pair: tuple(plain.moves[at] for at in numbers[pair]) if pair in numbers else None for pair in words}


def words_behind(plain, pair, numbers):
    """For each deed that parts the two, or leads to two that are known to be parted, the words that begin with it."""
    for at, (one, other) in enumerate(zip(plain.steps_from(pair[0]), plain.steps_from(pair[1]))):
        if isinstance(one, str) != isinstance(other, str):
            yield (at,)
        elif not isinstance(one, str) and (one.after, other.after) in numbers:
            yield (at,) + numbers[(one.after, other.after)]


class TestDifference(unittest.TestCase):
    def test_a_start_with_another_page(self):
        other = Site((), PAGES, "b", keep=2)
        self.assertTrue(same(difference(FIRST, (other, FIRST[1])), ((), ())))
        bits = [Site(("in", "out"), PAGES, start, keep=2) for start in "ab"]
        # The first of the flags, and no tuple is kept, so the least limit does.
        run = difference((bits[0], FIRST[1]), (bits[1], FIRST[1]), limit=1)
        self.assertTrue(same(run, ((False, False), ())))

    def test_flags_come_before_deeds(self):
        def site(rows):
            return Site(("in", "out"), (("a", ((), (), False)), ("b", (rows, (), False))), "a", keep=2)
        plain = site(())
        refusing = site((("if", "in", (("if", "out", (), (("refuse",),)),), ()),))
        run = difference((plain, FIRST[1]), (refusing, FIRST[1]))
        self.assertTrue(same(run, ((True, False), (("click", "b"),))))
        # With one deed more the earlier flags (False, False) show a difference, too.
        self.assertTrue(same(difference((plain, FIRST[1]), (refusing, FIRST[1]), flips=False), run))

    def test_a_deed_that_is_refused_on_one_side(self):
        loop = SMALL.with_guard("b", "enter", (("lead", "b"),))
        stop = SMALL.with_guard("b", "enter", (("refuse",),))
        rule = FIRST[1]
        self.assertTrue(same(difference((loop, rule), (stop, rule)), ((), (("click", "b"),))))
        self.assertTrue(same(difference((stop, rule), (loop, rule)), ((), (("click", "b"),))))
        # Refused on both sides it shows nothing.
        self.assertIsNone(difference((loop, rule), (loop, rule.with_part("turn", "last"))))
        [pair] = pairing((loop, rule), (loop, rule.with_part("turn", "last")))
        self.assertEqual(pair, (((), "a", ("a",), 0, None, ()),) * 2)

    def test_keeps_may_differ(self):
        other = Site((), PAGES, "a", keep=3)
        run = difference((SMALL, FIRST[1]), (other, FIRST[1]))
        self.assertIsNotNone(run)
        self.assertEqual(run, PlainPairs(Plain(SMALL, FIRST[1], True), Plain(other, FIRST[1], True)).least_run())
        self.assertIsNone(difference(FIRST, INSTEAD))

    def test_flips_are_passed_on(self):
        # Only if the bit is flipped while the page loads does it matter whether its guard is done anew.
        rows = (("if", "in", (("refuse",),), ()),)
        site = Site(("in",), (("a", (rows, (), True)), ("b", ((), (), False))), "b", keep=2)
        again = Rule("last", "cancel", again=True)
        once = Rule("last", "cancel")
        first, second = (site, again), (site, once)
        run = ((False,), (("click", "a"), ("flip", "in"), ("load", True)))
        self.assertTrue(same(difference(first, second), run))
        self.assertIsNone(difference(first, second, flips=False))
        self.assertEqual((alike(first, second), alike(first, second, flips=False)), (False, True))
        self.assertIsNone(pairing(first, second))
        self.assertIsNotNone(pairing(first, second, flips=False))
        self.assertEqual(rules_alike(site, [again, once]), [[0], [1]])
        self.assertEqual(rules_alike(site, [again, once], flips=False), [[0, 1]])


class TestErrorsInTheirOrder(unittest.TestCase):
    OTHER_BITS = (Site(("in",), (("a", ((), (), False)), ("c", ((), (), True))), "a"), Rule("first", "cancel"))
    OTHER_PAGES = (Site((), (("a", ((), (), False)), ("c", ((), (), True))), "a"), Rule("first", "cancel"))
    OTHER_ORDER = (Site((), PAGES[::-1], "a"), Rule("first", "cancel"))
    MORE_PAGES = (Site((), PAGES + (("c", ((), (), True)),), "a"), Rule("first", "cancel"))

    def test_bounds(self):
        for function in (difference, alike, pairing):
            for value in NO_BOUNDS:
                for second in (FIRST, self.OTHER_BITS, self.OTHER_PAGES):
                    with self.assertRaises(InvalidBound) as caught:
                        function(FIRST, second, limit=value)
                    self.assertIs(caught.exception.value, value)
            for value in (1, 20000):
                function(FIRST, LAST, limit=value)

    def test_what_can_not_be_compared(self):
        bits = [(Site(names, PAGES, "a"), FIRST[1]) for names in ((), ("in",), ("out",), ("in", "out"), ("out", "in"))]
        pairs = [(one, other, "bits") for one in bits for other in bits if one[0].bits != other[0].bits]
        pairs += [(FIRST, self.OTHER_BITS, "bits"), (self.OTHER_BITS, FIRST, "bits"), (self.OTHER_BITS, self.OTHER_PAGES, "bits")]
        pairs += [(FIRST, other, "pages") for other in (self.OTHER_PAGES, self.OTHER_ORDER, self.MORE_PAGES)]
        pairs += [(other, FIRST, "pages") for other in (self.OTHER_PAGES, self.OTHER_ORDER, self.MORE_PAGES)]
        for first, second, part in pairs:
            for call in (
                lambda: difference(first, second, limit=1), lambda: alike(first, second, limit=1),
                lambda: pairing(first, second, limit=1), lambda: is_pairing(first, second, []),
                lambda: is_pairing(first, second, None, flips=False),
            ):
                with self.assertRaises(NotComparable) as caught:
                    call()
                self.assertEqual(caught.exception.part, part)

    def test_the_default_limit(self):
        # Each of the 5137 standings of this site is kept beside itself.
        pages = tuple((name, ((), (), True)) for name in "abcd")
        site = Site((), pages, "a")
        rule = Rule("first", "cancel")
        for function in (difference, alike, pairing):
            with self.assertRaises(LimitExceeded) as caught:
                function((site, rule), (site, rule))
            self.assertEqual(caught.exception.limit, 5000)
        self.assertEqual(len(pairing((site, rule), (site, rule), limit=5137)), 5137)
        with self.assertRaises(LimitExceeded):
            rules_alike(site, [rule, rule])
        self.assertEqual(rules_alike(site, [rule]), [[0]])
        self.assertEqual(rules_alike(site, [rule, rule], limit=5137), [[0, 1]])

    def test_rules_alike(self):
        for value in NO_BOUNDS:
            for rules in ([], [FIRST[1]], [FIRST[1]] * 7):
                with self.assertRaises(InvalidBound) as caught:
                    rules_alike(SMALL, rules, limit=value)
                self.assertIs(caught.exception.value, value)
        for rules in ([], (), [FIRST[1]] * 7, tuple(all_rules())):
            with self.assertRaises(InvalidRules):
                rules_alike(SMALL, rules, limit=1)
        # Of two rules that are alike ten tuples are kept, of two that differ only the one of the start.
        like = [FIRST[1], INSTEAD[1]]
        for rules in (like, [LAST[1]] + like, [FIRST[1], LAST[1], INSTEAD[1]], like + [LAST[1]]):
            with self.assertRaises(LimitExceeded) as caught:
                rules_alike(SMALL, rules, limit=9)
            self.assertEqual(caught.exception.limit, 9)
            rules_alike(SMALL, rules, limit=10)
        self.assertEqual(rules_alike(SMALL, [FIRST[1], LAST[1]], limit=1), [[0], [1]])
        self.assertEqual(rules_alike(SMALL, [LAST[1]], limit=1), [[0]])

    def test_the_limit_counts_for_each_two_rules(self):
        pages = (("home", ((("ask", (), ()),), (), False)), ("desk", ((("lead", "home"),), (), False)))
        site = Site(("in",), pages, "home", keep=2)
        words = ("first race put once backs", "first cancel instead again clicks", "last race instead once backs")
        rules = [Rule.named(text) for text in words]
        kept = [len(pairing((site, rules[one]), (site, rules[other]))) for one, other in ((0, 1), (0, 2), (1, 2))]
        self.assertEqual(kept, [14, 18, 24])
        self.assertEqual(rules_alike(site, rules, limit=24), [[0, 1, 2]])
        # It would be enough to hold both others against the first one, if only the answer counted.
        with self.assertRaises(LimitExceeded) as caught:
            rules_alike(site, rules, limit=23)
        self.assertEqual(caught.exception.limit, 23)

    def test_six_rules(self):
        rules = [Rule("last", "ignore", lead=lead, backs=backs) for lead in ("put", "instead") for backs in (True, False)]
        rules += [Rule("last", "ignore"), Rule("last", "cancel")]
        self.assertEqual(rules_alike(SMALL, rules), [[0, 1, 2, 3, 4], [5]])


class TestIsPairing(unittest.TestCase):
    def test_the_tuples_that_were_kept(self):
        kept = pairing(FIRST, INSTEAD)
        self.assertIs(is_pairing(FIRST, INSTEAD, kept), True)
        self.assertIs(is_pairing(FIRST, INSTEAD, kept[::-1] + kept), True)
        self.assertIs(is_pairing(FIRST, INSTEAD, tuple(kept)), False)
        for at in range(len(kept)):
            self.assertIs(is_pairing(FIRST, INSTEAD, kept[:at] + kept[at + 1:]), False)

    def closed(self, value):
        """The list with all tuples that follow from its items, the first of FIRST and the second of INSTEAD."""
        first, second = Plain(SMALL, FIRST[1], True), Plain(SMALL, INSTEAD[1], True)
        more = list(value)
        for one, other in more:
            both = zip(first.steps_from(one), second.steps_from(other))
            more.extend(pair for pair in ((made.after, beside.after) for made, beside in both) if pair not in more)
        return more

    def test_tuples_that_no_run_leads_to(self):
        kept = pairing(FIRST, INSTEAD)
        lone = ((), "a", ("b", "b"), 0, None, ())
        self.assertIs(is_pairing(FIRST, INSTEAD, kept + [(lone, lone)]), False)
        more = self.closed(kept + [(lone, lone)])
        self.assertGreater(len(more), len(kept) + 1)
        self.assertIs(is_pairing(FIRST, INSTEAD, more), True)

    def test_views_that_differ(self):
        kept = pairing(FIRST, INSTEAD)
        start = kept[0][0]
        for other in (((), "b", ("a",), 0, None, ()), ((), "a", ("b",), 0, None, ()), ((), "b", ("b",), 0, None, ())):
            for pair in ((start, other), (other, start)):
                # Alone the tuple lacks what follows; with all that follows it is only the view that is wrong.
                self.assertIs(is_pairing(FIRST, INSTEAD, kept + [pair]), False)
                self.assertIs(is_pairing(FIRST, INSTEAD, self.closed(kept + [pair])), False)
        self.assertEqual(self.closed(kept), kept)

    def test_a_deed_that_is_refused_on_one_side(self):
        loop = (SMALL.with_guard("b", "enter", (("lead", "b"),)), FIRST[1])
        stop = (SMALL.with_guard("b", "enter", (("refuse",),)), FIRST[1])
        start = ((), "a", ("a",), 0, None, ())
        self.assertIs(is_pairing(loop, loop, [(start, start)]), True)
        self.assertIs(is_pairing(stop, stop, [(start, start)]), True)
        self.assertIs(is_pairing(loop, stop, [(start, start)]), False)
        self.assertIs(is_pairing(stop, loop, [(start, start)]), False)

    def test_each_side_has_its_own_standings(self):
        race = (SMALL, Rule("first", "race"))
        late = ((), "a", ("a",), 0, None, ("b",))
        kept = pairing(FIRST, INSTEAD)
        self.assertIs(is_pairing(race, FIRST, kept + [(late, kept[0][1])]), False)
        self.assertIs(is_pairing(FIRST, race, kept + [(late, kept[0][1])]), False)

    def test_any_values(self):
        kept = pairing(FIRST, INSTEAD)
        pair = kept[0]
        items = ANY_VALUES + (pair[:1], pair + pair[:1], list(pair), (pair[0], list(pair[1])), (pair, pair), deep_value(20))
        for item in items:
            self.assertIs(is_pairing(FIRST, INSTEAD, kept + [item]), False)
            self.assertIs(is_pairing(FIRST, INSTEAD, [item] + kept), False)
        for value in ANY_VALUES + (pair, {pair: pair}, deep_value(20), kept[0]):
            self.assertIs(is_pairing(FIRST, INSTEAD, value), False)
        place = ((), "a", ("a",), False, None, ())
        self.assertEqual(place, pair[0])
        self.assertIs(is_pairing(FIRST, INSTEAD, kept + [(place, pair[1])]), False)
        self.assertIs(is_pairing(FIRST, INSTEAD, kept + [(pair[0], place)]), False)

    def test_all_starts_are_needed(self):
        site = Site(("in",), (("a", ((("refuse",),), (), False)), ("b", ((("refuse",),), (), False))), "a")
        first = (site, FIRST[1])
        starts = [(((flag,), "a", ("a",), 0, None, ()),) * 2 for flag in (False, True)]
        self.assertIs(is_pairing(first, first, starts, flips=False), True)
        self.assertIs(is_pairing(first, first, starts), True)
        for pair in starts:
            self.assertIs(is_pairing(first, first, [pair], flips=False), False)
        self.assertIs(is_pairing(first, first, []), False)

    def test_flips(self):
        site = Site(("in",), (("a", ((), (), False)), ("b", ((("if", "in", (("refuse",),), ()),), (), False))), "a", keep=2)
        pair = (site, Rule("first", "cancel", backs=False))
        kept = pairing(pair, pair, flips=False)
        self.assertIs(is_pairing(pair, pair, kept, flips=False), True)
        self.assertIs(is_pairing(pair, pair, kept), False)


class TestParting(unittest.TestCase):
    def test_values_that_are_no_standings_of_the_book(self):
        book = Book(SMALL, FIRST[1])
        known = book.standings()[0]
        beside = ((), "b", ("a", "a"), 1, None, ())
        alike_values = ((), "a", ("a",), False, None, ())
        for value in ANY_VALUES + (beside, alike_values, list(known), (known,), deep_value(20)):
            for call in (
                lambda: parting(book, value, known), lambda: parting(book, known, value), lambda: parting(book, value, value),
            ):
                with self.assertRaises(NoStanding):
                    call()

    def test_a_standing_and_itself(self):
        book = Book(SMALL, FIRST[1])
        for standing in book.standings():
            self.assertIsNone(parting(book, standing, standing))

    def test_flips_are_those_of_the_book(self):
        site = Site(("in",), PAGES, "a", keep=2)
        rows = (("if", "in", (("refuse",),), ()),)
        for flips in (True, False):
            book = Book(site.with_guard("b", "enter", rows), FIRST[1], flips=flips)
            first, second = book.standings()[:2]
            self.assertEqual(parting(book, first, second), (("click", "b"),))
            waiting = [one for one in book.standings() if one[4] is not None]
            found = [parting(book, one, other) for one in waiting for other in waiting if one[0] != other[0]]
            self.assertEqual(any(deeds and ("flip", "in") in deeds for deeds in found), False)

    def test_many_standings_that_are_alike(self):
        # No guard looks at the bits, so each two standings that differ in flags alone are alike.
        site = Site(("in", "out", "c"), (("a", ((), (), True)), ("b", ((), (), False))), "a")
        book = Book(site, Rule("last", "race"))
        groups = classes(book)
        self.assertEqual(sum(len(group) for group in groups), 2000)
        self.assertTrue(all(len(group) % 8 == 0 for group in groups))
        known = book.standings()
        self.assertIsNone(parting(book, known[groups[-1][0]], known[groups[-1][-1]]))


class TestLists(unittest.TestCase):
    def test_returned_lists_are_new(self):
        book = Book(SMALL, FIRST[1])
        rules = [FIRST[1], LAST[1], INSTEAD[1]]
        before = copy.deepcopy((classes(book), pairing(FIRST, INSTEAD), rules_alike(SMALL, rules)))
        for returned in (classes(book), pairing(FIRST, INSTEAD), rules_alike(SMALL, rules)):
            if isinstance(returned[0], list):
                returned[0].append(99)
            returned.append("more")
            del returned[0]
        self.assertEqual((classes(book), pairing(FIRST, INSTEAD), rules_alike(SMALL, rules)), before)
        self.assertEqual([str(rule) for rule in rules], [str(FIRST[1]), str(LAST[1]), str(INSTEAD[1])])

    def test_lists_that_are_judged_are_not_changed(self):
        kept = pairing(FIRST, INSTEAD)
        given = kept + kept[:2]
        before = list(given)
        is_pairing(FIRST, INSTEAD, given)
        self.assertEqual(given, before)
