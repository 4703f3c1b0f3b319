"""The examples of the document."""

import unittest

from ledelsewhere.alike import classes, difference, parting, rules_alike
from ledelsewhere.books import Book, is_closed, shows_free
from ledelsewhere.counting import least_shown, lost, most_leads
from ledelsewhere.desk import Desk
from ledelsewhere.errors import InvalidSite, InvalidText, LimitExceeded, TooManyLeads
from ledelsewhere.guards import all_ends, letting_answers, resume_guard, run_guard
from ledelsewhere.heals import heals, rules_free
from ledelsewhere.judge import faults
from ledelsewhere.live import Live
from ledelsewhere.routing import begin, step
from ledelsewhere.rules import Rule
from ledelsewhere.sites import Site
from ledelsewhere.texts import format_deeds, format_site, parse_site
from ledelsewhere.verdicts import Verdict
from tests.helpers import same

HOME = ("home", ((), (), False))


def small_site():
    return Site((), (("a", ((), (), False)), ("b", ((), (), True))), "a", keep=2)


def first_site():
    return Site(("in",), (HOME, ("desk", ((("if", "in", (), (("lead", "home"),)),), (), True))), "home")


class TestExamples(unittest.TestCase):
    def assert_same(self, value, expected):
        self.assertTrue(same(value, expected), value)

    def test_page_names(self):
        self.assert_same(first_site().page_names(), ("home", "desk"))

    def test_row_paths(self):
        self.assert_same(first_site().row_paths(), [("desk", "enter", (0,)), ("desk", "enter", (0, 1, 0))])

    def test_a_lead_row_in_a_leave_guard(self):
        pages = (("home", ((("lead", "desk"),), (), False)), ("desk", ((), (("lead", "home"),), False)))
        with self.assertRaises(InvalidSite) as caught:
            Site(("in",), pages, "home")
        self.assert_same((caught.exception.part, caught.exception.path), ("rows", ("desk", "leave", (0,))))

    def test_with_row(self):
        site = first_site().with_row(("desk", "enter", (0, 1, 0)), ("refuse",))
        self.assert_same(site.guard("desk", "enter"), (("if", "in", (), (("refuse",),)),))

    def test_run_guard(self):
        self.assert_same(run_guard(first_site(), "desk", "enter", (False,)), ("lead", (False,), "home"))

    def test_resume_guard(self):
        rows = (("if", "in", (("ask", (), (("refuse",),)),), ()), ("set", "in", False))
        asking = Site(("in",), (HOME, ("desk", (rows, (), False))), "home")
        self.assert_same(run_guard(asking, "desk", "enter", (True,)), ("wait", (True,), (0, 0, 0)))
        self.assert_same(resume_guard(asking, "desk", "enter", (True,), (0, 0, 0), [True]), ("let", (False,), None))

    def test_all_ends_and_letting_answers(self):
        rows = (("ask", (("ask", (("lead", "home"),), ()),), (("refuse",),)),)
        asking = Site(("in",), (HOME, ("desk", (rows, (), False))), "home")
        ends = [
            ((False,), "refuse", (True,), None),
            ((True, False), "let", (True,), None),
            ((True, True), "lead", (True,), "home"),
        ]
        self.assert_same(all_ends(asking, "desk", "enter", (True,)), ends)
        self.assert_same(letting_answers(asking, "desk", "enter", (True,)), (True, False))

    def test_rules(self):
        self.assert_same(str(Rule("first", "race", lead="instead", again=True, backs=False)), "first race instead again clicks")
        self.assert_same(Rule.named("last cancel put once backs") == Rule("last", "cancel"), True)

    def test_begin(self):
        after = begin(first_site(), Rule("last", "cancel"), (False,)).after
        self.assert_same(after, ((False,), "home", ("home",), 0, None, ()))

    def test_step(self):
        site, rule = first_site(), Rule("last", "cancel")
        second = step(site, rule, begin(site, rule, (True,)).after, ("click", "desk"))
        events = (("guard", "home", "leave", "let"), ("guard", "desk", "enter", "let"), ("loads", "desk"))
        self.assert_same(second.events, events)
        way = ("click", "load", (), "home", ("home", "desk"), 1, 0)
        self.assert_same(second.after, ((True,), "home", ("home",), 0, way, ()))

    def test_doubled(self):
        site, rule = first_site(), Rule("last", "cancel", lead="instead")
        second = step(site, rule, begin(site, rule, (False,)).after, ("click", "desk"))
        events = (
            ("guard", "home", "leave", "let"), ("guard", "desk", "enter", "lead"), ("led", "home"),
            ("guard", "home", "enter", "let"), ("turned", ("home", "home"), 1), ("shown", "home"),
        )
        self.assert_same(second.events, events)
        self.assert_same(faults(site, rule, second), [("doubled", "home")])

    def test_apart(self):
        site, rule = first_site(), Rule("first", "cancel")
        second = step(site, rule, begin(site, rule, (True,)).after, ("click", "desk"))
        third = step(site, rule, second.after, ("load", False))
        self.assert_same(third.events, (("over",),))
        self.assert_same(third.after, ((True,), "home", ("home", "desk"), 1, None, ()))
        self.assert_same(faults(site, rule, third), [("apart", "home")])

    def test_late(self):
        site, rule = first_site(), Rule("last", "race")
        second = step(site, rule, begin(site, rule, (True,)).after, ("click", "desk"))
        third = step(site, rule, second.after, ("back",))
        fourth = step(site, rule, third.after, ("late", 0, True))
        self.assert_same(third.events, (("dropped", "load"),))
        self.assert_same(third.after, ((True,), "home", ("home",), 0, None, ("desk",)))
        self.assert_same(fourth.after, ((True,), "desk", ("home",), 0, None, ()))
        self.assert_same(faults(site, rule, fourth), [("apart", "desk"), ("late", "desk")])

    def test_too_many_leads(self):
        loop = Site((), (HOME, ("loop", ((("lead", "loop"),), (), False))), "home")
        rule = Rule("last", "cancel")
        with self.assertRaises(TooManyLeads) as caught:
            step(loop, rule, begin(loop, rule, ()).after, ("click", "loop"))
        self.assert_same(caught.exception.page, "loop")

    def test_live(self):
        live = Live(first_site(), Rule("first", "ignore"), (True,))
        live += [("click", "desk"), ("click", "home"), ("flip", "in")]
        found = [live.address, live.shown, live.waiting, live["in"], live.trial([("load", True)]), len(live)]
        self.assert_same(found, ["desk", "home", "load", False, [("desk", "desk")], 3])

    def test_format_site(self):
        text = "bits in\nstart home\nkeep 4\npage home\nenter\nleave\npage desk loads\nenter\nif in\nelse\nlead home\nend\nleave\n"
        self.assert_same(format_site(first_site()), text)

    def test_parse_site(self):
        with self.assertRaises(InvalidText) as caught:
            parse_site("bits\nstart home\nkeep 4\npage home\nenter\nelse\n")
        self.assert_same(caught.exception.line, 6)

    def test_format_deeds(self):
        self.assert_same(format_deeds([("click", "desk"), ("load", True), ("late", 0, False)]), "click desk\nload yes\nlate 0 no\n")

    def test_book(self):
        book = Book(small_site(), Rule("first", "cancel"))
        self.assert_same([len(book), book.faults()], [10, [("apart", "a")]])
        self.assert_same(book.least_fault("apart", "a"), ((), (("click", "b"), ("click", "b"))))
        way = ("click", "load", (), "a", ("a", "b"), 1, 0)
        self.assert_same(book.standings()[1], ((), "a", ("a", "b"), 1, way, ()))
        between = book.deeds_between(book.standings()[3], book.standings()[9])
        self.assert_same(between, (("click", "a"), ("back",), ("load", True)))

    def test_limit_of_a_book(self):
        with self.assertRaises(LimitExceeded) as caught:
            Book(small_site(), Rule("first", "cancel"), limit=9)
        self.assert_same(caught.exception.limit, 9)

    def test_closed_lists(self):
        site, rule = small_site(), Rule("first", "cancel")
        known = Book(site, rule).standings()
        found = [is_closed(site, rule, known), is_closed(site, rule, known[:9]), shows_free(site, rule, known, "late")]
        self.assert_same(found, [True, False, True])

    def test_verdicts(self):
        first = Verdict([("late", "b"), ("apart", "a"), ("late", "a")])
        found = [first.pairs(), (first ^ Verdict([("late", "a"), ("round", "b")])).pairs()]
        expected = [[("apart", "a"), ("late", "a"), ("late", "b")], [("apart", "a"), ("late", "b"), ("round", "b")]]
        self.assert_same(found, expected)

    def test_difference(self):
        site = small_site()
        run = difference((site, Rule("first", "cancel")), (site, Rule("last", "cancel")))
        self.assert_same(run, ((), (("click", "b"),)))

    def test_classes_and_parting(self):
        book = Book(small_site(), Rule("first", "cancel"))
        found = [classes(book), parting(book, book.standings()[3], book.standings()[8])]
        self.assert_same(found, [[[0], [1, 7], [2], [3], [4], [5], [6], [8], [9]], (("back",),)])

    def test_rules_alike(self):
        rules = [Rule("first", "cancel"), Rule("last", "cancel"), Rule("first", "cancel", lead="instead")]
        self.assert_same(rules_alike(small_site(), rules), [[0, 2], [1]])

    def test_counts(self):
        book = Book(small_site(), Rule("first", "cancel"))
        found = [least_shown(book, "b"), lost(book), most_leads(book)]
        self.assert_same(found, [((), (("click", "b"), ("load", True))), [], (0, None)])

    def test_heals(self):
        site = small_site()
        candidates = [("rule", "newer", "ignore"), ("rule", "turn", "last")]
        rules = [Rule("first", "cancel"), Rule("last", "cancel")]
        found = [heals(site, rules[0], "apart", candidates), rules_free(site, ["apart"], rules)]
        self.assert_same(found, [[(("rule", "turn", "last"),)], [1]])

    def test_desk(self):
        desk = Desk(small_site(), [Rule("first", "cancel"), Rule("last", "cancel")])
        desk.put_guard("b", "enter", (("refuse",),))
        self.assert_same([len(desk), desk.watched, desk[("b", "enter", (0,))]], [1, (), ("refuse",)])
