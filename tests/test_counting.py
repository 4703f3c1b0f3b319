"""Points 41 and 42: leads, rows that are never done, pages that are shown, standings that are lost."""

import copy
import random
import unittest

from ledelsewhere.books import Book
from ledelsewhere.counting import is_settled, least_shown, lost, most_leads, never_done
from ledelsewhere.errors import UnknownPage
from ledelsewhere.rules import Rule, all_rules
from ledelsewhere.sites import Site
from tests.helpers import same
from tests.plain_search import small_plains

SMALL = Site((), (("a", ((), (), False)), ("b", ((), (), True))), "a", keep=2)
RULE = Rule("first", "cancel")
HOME = ("home", ((), (), False))


def plain_counts(plain):
    """What most_leads and never_done tell, from the Steps."""
    best, done = (0, None), set()
    for key, standing, made in plain.tries():
        if not isinstance(made, str):
            leads = sum(event[0] == "led" for event in made.events)
            # The most leads, and of the runs with as many the least one.
            if leads > best[0] or leads == best[0] > 0 and key < best[1]:
                best = (leads, key)
            done.update(made.done)
    run = None if best[1] is None else plain.run_of(best[1])
    return (best[0], run), [path for path in plain.site.row_paths() if path not in done]


def plain_lost(plain):
    """The standings from which no settled one is found, each one looked at alone."""
    found = []
    for standing in plain.standings():
        reached, todo = {standing}, [standing]
        while todo:
            for made in plain.steps_from(todo.pop()):
                if not isinstance(made, str) and made.after not in reached:
                    reached.add(made.after)
                    todo.append(made.after)
        if not any(one[4] is None and one[1] == one[2][one[3]] for one in reached):
            found.append(standing)
    return found


class TestAgainstThePlainSearch(unittest.TestCase):
    def test_each_rule(self):
        source = random.Random(41)
        leads, never, many_lost = set(), 0, 0
        for rule in all_rules():
            for plain in small_plains(source, rule, source.choice((True, False)), 3, most=60):
                book = Book(plain.site, rule, flips=plain.flips)
                told = (plain.site.pages, str(rule), plain.flips)
                counts, paths = plain_counts(plain)
                self.assertTrue(same(most_leads(book), counts), told)
                self.assertTrue(same(never_done(book), paths), told)
                for page in plain.site.page_names():
                    keys = [key for standing, key in plain.keys.items() if standing[1] == page]
                    run = plain.run_of(min(keys)) if keys else None
                    self.assertTrue(same(least_shown(book, page), run), told)
                self.assertEqual(lost(book), plain_lost(plain), told)
                leads.add(counts[0])
                never += len(paths)
                many_lost += len(lost(book))
        self.assertTrue({0, 1, 2} <= leads, leads)
        self.assertTrue(never > 10 and many_lost > 10, (never, many_lost))

    def test_facts_about_lost_standings(self):
        source = random.Random(42)
        without = ("if", "ask", "set", "refuse")
        for rule in all_rules():
            if rule.turn == "last" and rule.newer != "race":
                for _ in range(4):
                    flips = source.choice((True, False))
                    words = without if rule.newer == "ignore" else without + ("lead",)
                    [plain] = small_plains(source, rule, flips, 1, words=words)
                    self.assertEqual(lost(Book(plain.site, rule, flips=flips)), [], (plain.site.pages, str(rule)))


class TestMostLeads(unittest.TestCase):
    def test_no_leads(self):
        self.assertTrue(same(most_leads(Book(SMALL, RULE)), (0, None)))

    def test_four_leads(self):
        pages = [HOME]
        pages += [(name, ((("if", "in", (), (("lead", after),)),), (), False)) for name, after in zip("abcd", "bcda")]
        site = Site(("in",), tuple(pages), "home", keep=2)
        book = Book(site, RULE)
        # Without the bit each click is led round and round and is refused, which counts for nothing.
        self.assertTrue(same(most_leads(book), (0, None)))
        ended = site.with_guard("d", "enter", (("if", "in", (), (("lead", "home"),)),))
        self.assertTrue(same(most_leads(Book(ended, RULE)), (4, ((False,), (("click", "a"),)))))

    def test_a_deed_that_is_refused_counts_for_nothing(self):
        pages = (HOME, ("loop", ((("lead", "loop"),), (), False)), ("one", ((("lead", "home"),), (), False)))
        book = Book(Site((), pages, "home"), RULE)
        self.assertTrue(same(most_leads(book), (1, ((), (("click", "one"),)))))
        self.assertEqual(never_done(book), [("loop", "enter", (0,))])

    def test_leads_of_one_deed_alone_count(self):
        # The cup leads twice, but it waits for an answer between the two leads.
        cup = (("ask", (("lead", "cup"),), (("lead", "home"),)),)
        book = Book(Site((), (HOME, ("cup", (cup, (), False))), "home"), RULE)
        self.assertTrue(same(most_leads(book), (1, ((), (("click", "cup"), ("answer", False))))))


class TestNeverDone(unittest.TestCase):
    def test_in_site_order(self):
        enter = (("refuse",), ("if", "in", (("set", "in", True),), (("refuse",),)))
        leave = (("ask", (), ()),)
        site = Site(("in",), (HOME, ("desk", (enter, leave, False))), "home")
        expected = [
            ("desk", "enter", (1,)), ("desk", "enter", (1, 0, 0)), ("desk", "enter", (1, 1, 0)), ("desk", "leave", (0,)),
        ]
        self.assertTrue(same(never_done(Book(site, RULE)), expected))
        self.assertEqual(never_done(Book(SMALL, RULE)), [])

    def test_flips_do_more_rows(self):
        # Without flips the bit changes only where a row sets it.
        enter = (("if", "in", (("set", "in", False),), (("if", "out", (("set", "in", True),), ()),)),)
        site = Site(("in", "out"), (HOME, ("desk", (enter, (("if", "in", (("refuse",),), ()),), False))), "home", keep=2)
        self.assertEqual(never_done(Book(site, RULE)), [])
        rows = (("set", "in", True), ("set", "out", True), ("if", "out", (), (("refuse",),)))
        again = site.with_guard("desk", "enter", rows).with_guard("desk", "leave", (("if", "out", (), (("refuse",),)),))
        self.assertEqual(never_done(Book(again, RULE, flips=False)), [("desk", "enter", (2, 1, 0)), ("desk", "leave", (0, 1, 0))])
        self.assertEqual(never_done(Book(again, RULE)), [("desk", "enter", (2, 1, 0))])


class TestLeastShown(unittest.TestCase):
    def test_the_start_page(self):
        site = Site(("in", "out"), SMALL.pages, "b")
        self.assertTrue(same(least_shown(Book(site, RULE), "b"), ((False, False), ())))

    def test_a_page_that_nobody_enters(self):
        site = SMALL.with_guard("b", "enter", (("refuse",),))
        self.assertIsNone(least_shown(Book(site, RULE), "b"))

    def test_a_page_that_the_site_has_not(self):
        for page in ("", "c", "A", "no such page"):
            with self.assertRaises(UnknownPage) as caught:
                least_shown(Book(SMALL, RULE), page)
            self.assertEqual(caught.exception.page, page)


class TestSettledAndLost(unittest.TestCase):
    def test_is_settled(self):
        way = ("click", "load", (), "a", ("a", "b"), 1, 0)
        self.assertIs(is_settled(((), "a", ("a",), 0, None, ())), True)
        self.assertIs(is_settled(((), "b", ("a", "b"), 1, None, ("a",))), True)
        self.assertIs(is_settled(((), "b", ("a", "b"), 0, None, ())), False)
        self.assertIs(is_settled(((), "a", ("a", "b"), 0, way, ())), False)
        self.assertIs(is_settled(((), "b", ("a", "b"), 0, way, ())), False)

    def test_a_settled_standing_is_not_lost(self):
        # No way leads out of the loop, so only the start itself is settled.
        loop = Site((), (HOME, ("loop", ((("lead", "loop"),), (), False))), "home")
        self.assertEqual(lost(Book(loop, RULE)), [])

    def test_a_way_that_waits_for_ever(self):
        asking = (("ask", (("lead", "loop"),), (("lead", "loop"),)),)
        site = Site((), (HOME, ("loop", (asking, (), False))), "home")
        book = Book(site, Rule("last", "ignore"))
        found = lost(book)
        # After each answer it waits again, and it cannot be dropped.
        self.assertEqual(found, [standing for standing in book.standings() if standing[4] is not None])
        self.assertEqual([standing[4][6] for standing in found], [0, 1, 2, 3, 4, 5])
        self.assertEqual(lost(Book(site, Rule("last", "cancel"))), [])

    def test_turned_but_not_shown(self):
        # The address turns to the page b, its load fails, and the leave guard of the page a lets nobody out any more.
        pages = (
            ("a", ((("set", "in", True),), (("if", "in", (("refuse",),), ()),), False)),
            ("b", ((("set", "in", True),), (), True)),
        )
        site = Site(("in",), pages, "a", keep=2)
        apart = ((True,), "a", ("a", "b"), 1, None, ())
        self.assertEqual(lost(Book(site, RULE, flips=False)), [apart])
        # A flip of the bit opens it again.
        self.assertEqual(lost(Book(site, RULE)), [])
        self.assertIn(apart, Book(site, RULE))


class TestLists(unittest.TestCase):
    def test_returned_lists_are_new(self):
        asking = (("ask", (("lead", "loop"),), (("lead", "loop"),)), ("refuse",))
        book = Book(Site((), (HOME, ("loop", (asking, (), False))), "home"), Rule("last", "ignore"))
        before = copy.deepcopy((never_done(book), lost(book)))
        for returned in (never_done(book), lost(book)):
            returned.append("more")
            del returned[0]
        self.assertEqual((never_done(book), lost(book)), before)
