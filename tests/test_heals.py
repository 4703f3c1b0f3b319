"""Points 43, 44 and 33: changes, sets of changes that heal, and rules under which there is no fault."""

import copy
import itertools
import random
import unittest

from ledelsewhere.books import Book
from ledelsewhere.errors import InvalidBound, InvalidChange, InvalidKind, InvalidRules, LimitExceeded
from ledelsewhere.heals import heals, is_change, rules_free, with_changes
from ledelsewhere.judge import KINDS
from ledelsewhere.rules import PARTS, Rule, all_rules
from ledelsewhere.sites import Site
from tests.helpers import ANY_VALUES, deep_value, made_rows, made_site, same
from tests.plain_search import Plain, small_plains

SMALL = Site((), (("a", ((), (), False)), ("b", ((), (), True))), "a", keep=2)
RULE = Rule("first", "cancel")
LAST = ("rule", "turn", "last")
IGNORE = ("rule", "newer", "ignore")
RACE = ("rule", "newer", "race")
SHUT = ("guard", "b", "enter", (("refuse",),))
VALUES = {
    "turn": ("first", "last"), "newer": ("cancel", "ignore", "race"), "lead": ("put", "instead"),
    "again": (False, True), "backs": (False, True),
}
NO_BOUNDS = (None, True, False, 0, -1, 10001, 10 ** 30, "2000", (), [2000], {}, deep_value(20))


def told(pair):
    """A site and a rule as values."""
    site, rule = pair
    return site.bits, site.pages, site.start, site.keep, str(rule)


def drawn_change(source, site):
    """A change of a rule or of a guard."""
    if source.randint(0, 2) > 0:
        part = source.choice(PARTS)
        return ("rule", part, source.choice(VALUES[part]))
    side = source.choice(("enter", "leave"))
    words = tuple(word for word in ("if", "ask", "set", "refuse", "lead") if site.bits or word not in ("if", "set"))
    words = tuple(word for word in words if side == "enter" or word != "lead")
    return ("guard", source.choice(site.page_names()), side, made_rows(source, 2, words, site.bits, site.page_names()))


class TestIsChange(unittest.TestCase):
    def test_changes_of_the_rule(self):
        for part in PARTS:
            for value in ANY_VALUES + ("first", "last", "cancel", "ignore", "race", "put", "instead", "again", "once", deep_value(20)):
                expected = any(same(value, allowed) for allowed in VALUES[part])
                self.assertIs(is_change(SMALL, RULE, ("rule", part, value)), expected, (part, value))
        for part in ANY_VALUES + ("Turn", "text", ["turn"], ("turn",)):
            for value in (True, "first"):
                self.assertIs(is_change(SMALL, RULE, ("rule", part, value)), False)

    def test_the_value_that_is_there_already(self):
        for part in PARTS:
            self.assertIs(is_change(SMALL, RULE, ("rule", part, getattr(RULE, part))), True)
        self.assertIs(is_change(SMALL, RULE, ("guard", "a", "enter", ())), True)

    def test_changes_of_guards(self):
        for page in ("a", "b"):
            for side in ("enter", "leave"):
                for rows in ((), (("refuse",),), (("ask", (), ()),), (("refuse",),) * 8):
                    self.assertIs(is_change(SMALL, RULE, ("guard", page, side, rows)), True)
                self.assertIs(is_change(SMALL, RULE, ("guard", page, side, (("lead", "b"),))), side == "enter")
                for rows in ((("set", "in", True),), (("refuse",),) * 9, ("refuse",), [("refuse",)], None, deep_value(20)):
                    self.assertIs(is_change(SMALL, RULE, ("guard", page, side, rows)), False, rows)
        for other in ANY_VALUES + (("a",), ["a"], deep_value(20)):
            self.assertIs(is_change(SMALL, RULE, ("guard", other, "enter", ())), False)
            self.assertIs(is_change(SMALL, RULE, ("guard", "a", other, ())), False)

    def test_any_values(self):
        wrong = (
            LAST[:2], LAST + ("last",), list(LAST), ("Rule",) + LAST[1:], (None,) + LAST[1:], SHUT[:3], SHUT + ((),), list(SHUT),
            ("rule",), ("guard",), ("guard",) + LAST[1:], ("rule",) + SHUT[1:], ("lead", "b"), (LAST,), ("page", "a", "enter", ()),
            (("rule",), "turn", "last"), (["guard"], "a", "enter", ()),
        )
        for value in ANY_VALUES + wrong + (deep_value(20),):
            self.assertIs(is_change(SMALL, RULE, value), False, value)


class TestWithChanges(unittest.TestCase):
    def test_one_change_of_each_kind(self):
        self.assertEqual(told(with_changes(SMALL, RULE, [LAST])), told((SMALL, RULE.with_part("turn", "last"))))
        site = SMALL.with_guard("b", "enter", (("refuse",),))
        self.assertEqual(told(with_changes(SMALL, RULE, (SHUT,))), told((site, RULE)))
        self.assertEqual(told(with_changes(SMALL, RULE, [])), told((SMALL, RULE)))
        made = with_changes(SMALL, RULE, ())
        self.assertIsInstance(made, tuple)
        self.assertEqual(len(made), 2)

    def test_the_order_does_not_matter(self):
        changes = [
            LAST, IGNORE, ("rule", "lead", "instead"), ("rule", "again", True), ("rule", "backs", False), SHUT,
            ("guard", "b", "leave", (("ask", (), ()),)), ("guard", "a", "enter", (("lead", "b"),)), ("guard", "a", "leave", ()),
        ]
        pages = (("a", ((("lead", "b"),), (), False)), ("b", ((("refuse",),), (("ask", (), ()),), True)))
        expected = told((Site((), pages, "a", keep=2), Rule("last", "ignore", lead="instead", again=True, backs=False)))
        source = random.Random(43)
        for _ in range(20):
            source.shuffle(changes)
            self.assertEqual(told(with_changes(SMALL, RULE, changes)), expected)
            self.assertEqual(told(with_changes(SMALL, RULE, tuple(changes))), expected)

    def test_the_first_index_that_is_wrong(self):
        same_aims = ((LAST, LAST), (LAST, ("rule", "turn", "first")), (SHUT, ("guard", "b", "enter", ())), (IGNORE, RACE))
        for first, second in same_aims:
            with self.assertRaises(InvalidChange) as caught:
                with_changes(SMALL, RULE, [first, second])
            self.assertEqual(caught.exception.index, 1)
            with self.assertRaises(InvalidChange) as caught:
                with_changes(SMALL, RULE, (first, ("rule", "again", True), second, None))
            self.assertEqual(caught.exception.index, 2)
        for value in ANY_VALUES + (list(LAST), deep_value(20)):
            with self.assertRaises(InvalidChange) as caught:
                with_changes(SMALL, RULE, [value])
            self.assertEqual(caught.exception.index, 0)
            with self.assertRaises(InvalidChange) as caught:
                with_changes(SMALL, RULE, [LAST, value, LAST])
            self.assertEqual(caught.exception.index, 1)

    def test_aims_of_other_kinds_are_other_aims(self):
        others = [("guard", "a", "enter", ()), ("guard", "a", "leave", ()), ("guard", "b", "enter", ()), ("guard", "b", "leave", ())]
        with_changes(SMALL, RULE, others + [("rule", "again", True), ("rule", "backs", True)])

    def test_many_changes(self):
        # There is no greatest number here but that of the aims.
        changes = [("rule", part, VALUES[part][-1]) for part in PARTS]
        changes += [("guard", page, side, ()) for page in "ab" for side in ("enter", "leave")]
        self.assertEqual(str(with_changes(SMALL, RULE, changes)[1]), "last race instead again backs")


class TestHeals(unittest.TestCase):
    def test_against_all_sets(self):
        source = random.Random(44)
        sizes = {}
        for at in range(42):
            flips = source.choice((True, False))
            # Under some rules a fault goes away only with two changes, so half of the sites are looked at under such.
            rule = source.choice(all_rules()) if at % 2 == 0 else Rule("first", "race", again=source.choice((True, False)))
            [plain] = small_plains(source, rule, flips, 1, most=60, most_rows=2)
            kinds = plain.kinds()
            candidates = [] if at % 2 == 0 else [IGNORE, LAST]
            while len(candidates) < 4 + at % 3:
                change = drawn_change(source, plain.site)
                if change not in candidates:
                    candidates.append(change)
            source.shuffle(candidates)
            known = {}
            for kind in KINDS:
                expected = self.expected(plain, kinds, kind, candidates, known)
                found = heals(plain.site, rule, kind, candidates, flips=flips, limit=10000)
                self.assertTrue(same(found, expected), (plain.site.pages, str(rule), flips, kind, candidates))
                size = len(expected[0]) if expected else None
                sizes[size] = sizes.get(size, 0) + 1
            self.assertTrue(same(heals(plain.site, rule, kind, tuple(candidates), flips=flips, limit=10000), expected))
        self.assertTrue({None, 0, 1, 2} <= set(sizes) and min(sizes.values()) >= 5, sizes)

    def expected(self, plain, kinds, kind, candidates, known):
        """All sets of at most two candidates are tried, then the smallest of those that heal are taken."""
        if kind not in kinds:
            return [()]
        healing = []
        for many in (1, 2):
            for changes in itertools.combinations(candidates, many):
                if many == 2 and changes[0][:-1] == changes[1][:-1]:
                    continue
                if changes not in known:
                    known[changes] = self.kinds_with(plain, changes)
                if kind not in known[changes] and known[changes] <= kinds:
                    healing.append(changes)
        fewest = min([len(changes) for changes in healing], default=0)
        return [changes for changes in healing if len(changes) == fewest]

    def kinds_with(self, plain, changes):
        """The kinds of faults with the changes, which are made one by one."""
        site, rule = plain.site, plain.rule
        for change in changes:
            if change[0] == "rule":
                rule = rule.with_part(*change[1:])
            else:
                site = site.with_guard(*change[1:])
        return set(Book(site, rule, flips=plain.flips, limit=10000).verdict().kinds())

    def test_no_such_fault(self):
        self.assertEqual(heals(SMALL, RULE, "late", []), [()])
        self.assertEqual(heals(SMALL, RULE, "late", [LAST, IGNORE]), [()])

    def test_nothing_heals(self):
        self.assertEqual(heals(SMALL, RULE, "apart", []), [])
        self.assertEqual(heals(SMALL, RULE, "apart", [IGNORE, ("rule", "turn", "first"), RACE]), [])

    def test_a_fault_of_another_kind_spoils_it(self):
        lead = ("guard", "b", "enter", (("lead", "b"),))
        self.assertEqual(heals(SMALL, RULE, "apart", [lead]), [])
        self.assertEqual(heals(SMALL, RULE, "apart", [lead, SHUT]), [(SHUT,)])

    def test_two_changes_in_the_order_of_the_candidates(self):
        race = Rule("first", "race")
        cancel, again = ("rule", "newer", "cancel"), ("rule", "again", True)
        stay, leave = ("guard", "a", "leave", (("refuse",),)), ("guard", "a", "leave", ())
        self.assertEqual(heals(SMALL, race, "apart", [IGNORE, again, LAST]), [(IGNORE, LAST)])
        self.assertEqual(heals(SMALL, race, "apart", [LAST, again, IGNORE]), [(LAST, IGNORE)])
        found = heals(SMALL, race, "apart", [cancel, leave, LAST, again, IGNORE])
        self.assertEqual(found, [(cancel, LAST), (LAST, IGNORE)])
        # As soon as one change alone heals, sets of two are not asked for.
        self.assertEqual(heals(SMALL, race, "apart", [cancel, stay, LAST]), [(stay,)])
        self.assertEqual(heals(SMALL, race, "late", [LAST, leave, again]), [])
        self.assertEqual(heals(SMALL, race, "late", [LAST, leave, again, IGNORE, cancel]), [(IGNORE,), (cancel,)])

    def test_two_changes_of_one_aim_heal_nothing(self):
        # Made one after the other they would heal, but a set with two changes of one aim heals nothing.
        site = Site((), (("a", ((), (), True)), ("b", ((), (), True))), "a", keep=2)
        race = RULE.with_part("newer", "race")
        self.assertEqual(heals(site, race, "late", [("rule", "newer", "race"), ("rule", "turn", "first")]), [])
        first, second = ("guard", "b", "enter", ()), ("guard", "b", "enter", (("ask", (), ()),))
        self.assertEqual(heals(SMALL, RULE, "apart", [first, second]), [])

    def test_flips_are_passed_on(self):
        rows = (("if", "in", (("refuse",),), ()),)
        site = Site(("in",), (("a", ((), (), False)), ("b", (rows, (), False))), "a", keep=2)
        rule = Rule("first", "cancel", backs=False)
        clear = ("guard", "b", "enter", ())
        self.assertEqual(heals(site, rule, "barred", [clear], flips=False), [()])
        self.assertEqual(heals(site, rule, "barred", [clear]), [(clear,)])
        self.assertEqual(heals(site, rule, "barred", [clear], flips=True), [(clear,)])


class TestErrorsOfHealsInTheirOrder(unittest.TestCase):
    def test_bounds(self):
        for value in NO_BOUNDS:
            with self.assertRaises(InvalidBound) as caught:
                heals(SMALL, RULE, "no kind", [None], limit=value)
            self.assertIs(caught.exception.value, value)
        heals(SMALL, RULE, "apart", [LAST], limit=10000)

    def test_kinds(self):
        for kind in ("", "no kind", "Apart"):
            with self.assertRaises(InvalidKind) as caught:
                heals(SMALL, RULE, kind, [None], limit=1)
            self.assertEqual(caught.exception.kind, kind)

    def test_candidates(self):
        six = [LAST, IGNORE, SHUT, ("rule", "again", True), ("rule", "backs", True), ("rule", "lead", "put")]
        for wrong in ANY_VALUES + (list(LAST), deep_value(20), ("rule", "turn", "never"), LAST, SHUT):
            for at in range(1, 6):
                # A thing of which there is one already, or which is no change at all.
                candidates = [LAST, SHUT] + [change for change in six if change not in (LAST, SHUT)]
                candidates[max(at, 2):max(at, 2)] = [wrong]
                with self.assertRaises(InvalidChange) as caught:
                    heals(SMALL, RULE, "late", candidates, limit=1)
                self.assertEqual(caught.exception.index, max(at, 2))
        self.assertEqual(heals(SMALL, RULE, "late", six), [()])
        for more in (RACE, LAST, None):
            for candidates in (six + [more], tuple(six) + (more, None)):
                with self.assertRaises(InvalidChange) as caught:
                    heals(SMALL, RULE, "late", candidates)
                self.assertEqual(caught.exception.index, 6)
        with self.assertRaises(InvalidChange) as caught:
            heals(SMALL, RULE, "late", [LAST, None] + six)
        self.assertEqual(caught.exception.index, 1)

    def test_two_candidates_may_have_one_aim(self):
        self.assertEqual(heals(SMALL, RULE, "apart", [IGNORE, RACE, LAST]), [(LAST,)])

    def test_the_limit_of_the_first_book(self):
        many = len(Book(SMALL, RULE))
        self.assertEqual(heals(SMALL, RULE, "late", [], limit=many), [()])
        for kind in ("late", "apart"):
            with self.assertRaises(LimitExceeded) as caught:
                heals(SMALL, RULE, kind, [LAST], limit=many - 1)
            self.assertEqual(caught.exception.limit, many - 1)

    def test_the_limits_of_the_sets_that_are_tried(self):
        many, larger = len(Book(SMALL, RULE)), len(Book(SMALL, RULE.with_part("newer", "race")))
        self.assertLess(many, larger)
        # Without such a fault no set is tried.
        self.assertEqual(heals(SMALL, RULE, "late", [RACE], limit=many), [()])
        # A set of one change is tried even where another one heals.
        for candidates in ([LAST, RACE], [RACE, LAST], [RACE]):
            with self.assertRaises(LimitExceeded) as caught:
                heals(SMALL, RULE, "apart", candidates, limit=larger - 1)
            self.assertEqual(caught.exception.limit, larger - 1)
            self.assertEqual(heals(SMALL, RULE, "apart", candidates, limit=larger), [(LAST,)] if LAST in candidates else [])

    def test_two_changes_that_exceed_the_limit_together(self):
        site = Site((), (("a", ((), (), False)), ("b", ((("ask", (), (("refuse",),)),), (), True))), "a", keep=2)
        rule = Rule("first", "cancel")
        race, again = ("rule", "newer", "race"), ("rule", "again", True)
        ones = [len(Book(*with_changes(site, rule, [change]))) for change in (race, again)]
        both = len(Book(*with_changes(site, rule, [race, again])))
        self.assertLess(max(ones), both)
        self.assertEqual(heals(site, rule, "apart", [race, again], limit=both), [])
        with self.assertRaises(LimitExceeded) as caught:
            heals(site, rule, "apart", [race, again], limit=both - 1)
        self.assertEqual(caught.exception.limit, both - 1)
        # As soon as one change heals, the two together are not tried.
        self.assertEqual(heals(site, rule, "apart", [race, again, LAST], limit=max(ones)), [(LAST,)])

    def test_no_book_is_made_for_two_changes_of_one_aim(self):
        site = Site((), (("a", ((), (), False)), ("b", ((), (), True))), "a", keep=2)
        race = RULE.with_part("newer", "race")
        small = ("guard", "b", "enter", (("ask", (), (("refuse",),)),))
        again = ("guard", "b", "enter", (("ask", (("refuse",),), ()),))
        most = max(len(Book(*with_changes(site, race, [change]))) for change in (small, again))
        self.assertEqual(heals(site, race, "late", [small, again], limit=most), [])


class TestRulesFree(unittest.TestCase):
    def test_against_books(self):
        source = random.Random(33)
        lengths = set()
        for _ in range(60):
            flips = source.choice((True, False))
            site = made_site(source, most_rows=3)
            rules = [rule for rule in source.sample(all_rules(), 6) if not Plain(site, rule, flips, 60).too_many]
            if rules:
                books = [Book(site, rule, flips=flips) for rule in rules]
                for kinds in (KINDS, [], ("apart",), ["round", "round"], source.sample(KINDS, 2), source.sample(KINDS, 3)):
                    expected = [at for at, book in enumerate(books) if all(book.is_free(kind) for kind in kinds)]
                    self.assertEqual(rules_free(site, kinds, rules, flips=flips), expected)
                    self.assertEqual(rules_free(site, kinds, tuple(rules), flips=flips), expected)
                    lengths.add((len(expected), len(rules)))
        self.assertTrue(any(0 < few < many for few, many in lengths))

    def test_no_kinds(self):
        self.assertEqual(rules_free(SMALL, [], [RULE, RULE]), [0, 1])
        self.assertEqual(rules_free(SMALL, (), (RULE,)), [0])

    def test_flips_are_passed_on(self):
        rows = (("if", "in", (("refuse",),), ()),)
        site = Site(("in",), (("a", ((), (), False)), ("b", (rows, (), False))), "a", keep=2)
        rules = [Rule("first", "cancel", backs=False), Rule("first", "cancel")]
        self.assertEqual(rules_free(site, ["barred"], rules), [1])
        self.assertEqual(rules_free(site, ["barred"], rules, flips=False), [0, 1])

    def test_errors_in_their_order(self):
        for value in NO_BOUNDS:
            with self.assertRaises(InvalidBound) as caught:
                rules_free(SMALL, ["no kind"], [], limit=value)
            self.assertIs(caught.exception.value, value)
        for kinds in (["no kind"], ("late", "no kind", "other"), ["", "no kind"]):
            for rules in ([], [RULE], [RULE] * 7):
                with self.assertRaises(InvalidKind) as caught:
                    rules_free(SMALL, kinds, rules, limit=1)
                self.assertEqual(caught.exception.kind, [kind for kind in kinds if kind not in KINDS][0])
        for rules in ([], (), [RULE] * 7, tuple(all_rules())):
            for kinds in ([], ["late"]):
                with self.assertRaises(InvalidRules):
                    rules_free(SMALL, kinds, rules, limit=1)
        self.assertEqual(rules_free(SMALL, [], [RULE] * 6), [0, 1, 2, 3, 4, 5])

    def test_the_limit(self):
        many, larger = len(Book(SMALL, RULE)), len(Book(SMALL, RULE.with_part("newer", "race")))
        rules = [RULE, RULE.with_part("newer", "race")]
        for kinds in ([], ["late"], ["apart"]):
            for order in (rules, rules[::-1]):
                rules_free(SMALL, kinds, order, limit=larger)
                with self.assertRaises(LimitExceeded) as caught:
                    rules_free(SMALL, kinds, order, limit=larger - 1)
                self.assertEqual(caught.exception.limit, larger - 1)
        self.assertEqual(rules_free(SMALL, [], [RULE], limit=many), [0])


class TestDefaults(unittest.TestCase):
    def test_the_default_limit(self):
        # 2033 standings, as the tests of books say.
        pages = (("a", ((), (), True)), ("b", ((), (), False)), ("c", ((), (), False)))
        site = Site((), pages, "a")
        rule = Rule("last", "race")
        for call in (lambda: heals(site, rule, "late", []), lambda: rules_free(site, [], [rule])):
            with self.assertRaises(LimitExceeded) as caught:
                call()
            self.assertEqual(caught.exception.limit, 2000)
        self.assertEqual(rules_free(site, [], [rule], limit=2033), [0])


class TestArguments(unittest.TestCase):
    def test_nothing_is_changed(self):
        candidates, kinds, rules = [IGNORE, LAST, SHUT], ["apart", "late"], [RULE, Rule("last", "cancel")]
        before = copy.deepcopy((candidates, kinds, [str(rule) for rule in rules], told((SMALL, RULE))))
        heals(SMALL, RULE, "apart", candidates)
        with_changes(SMALL, RULE, candidates)
        rules_free(SMALL, kinds, rules)
        self.assertEqual((candidates, kinds, [str(rule) for rule in rules], told((SMALL, RULE))), before)

    def test_returned_lists_are_new(self):
        for call in (
            lambda: heals(SMALL, RULE, "apart", [IGNORE, LAST]), lambda: heals(SMALL, RULE, "late", []),
            lambda: heals(SMALL, RULE, "apart", []), lambda: rules_free(SMALL, [], [RULE]),
        ):
            before = call()
            call().append("more")
            self.assertEqual(call(), before)
