"""The examples of the document that speak of sites, guards, rules, deeds and faults."""

import unittest

from ledelsewhere.errors import InvalidSite, TooManyLeads
from ledelsewhere.guards import all_ends, letting_answers, resume_guard, run_guard
from ledelsewhere.judge import faults
from ledelsewhere.routing import begin, step
from ledelsewhere.rules import Rule
from ledelsewhere.sites import Site
from tests.helpers import same

HOME = ("home", ((), (), False))


def first_site():
    return Site(("in",), (HOME, ("desk", ((("if", "in", (), (("lead", "home"),)),), (), True))), "home")


class TestExamples(unittest.TestCase):
    def assert_same(self, value, expected):
        self.assertTrue(same(value, expected), value)

    def test_page_names(self):
        self.assert_same(first_site().page_names(), ("home", "desk"))

    def test_row_paths(self):
        self.assert_same(first_site().row_paths(), [("desk", "enter", (0,)), ("desk", "enter", (0, 1, 0))])

    def test_a_lead_row_in_a_leave_guard(self):
        pages = (("home", ((("lead", "desk"),), (), False)), ("desk", ((), (("lead", "home"),), False)))
        with self.assertRaises(InvalidSite) as caught:
            Site(("in",), pages, "home")
        self.assert_same((caught.exception.part, caught.exception.path), ("rows", ("desk", "leave", (0,))))

    def test_with_row(self):
        site = first_site().with_row(("desk", "enter", (0, 1, 0)), ("refuse",))
        self.assert_same(site.guard("desk", "enter"), (("if", "in", (), (("refuse",),)),))

    def test_run_guard(self):
        self.assert_same(run_guard(first_site(), "desk", "enter", (False,)), ("lead", (False,), "home"))

    def test_resume_guard(self):
        rows = (("if", "in", (("ask", (), (("refuse",),)),), ()), ("set", "in", False))
        asking = Site(("in",), (HOME, ("desk", (rows, (), False))), "home")
        self.assert_same(run_guard(asking, "desk", "enter", (True,)), ("wait", (True,), (0, 0, 0)))
        self.assert_same(resume_guard(asking, "desk", "enter", (True,), (0, 0, 0), [True]), ("let", (False,), None))

    def test_all_ends_and_letting_answers(self):
        rows = (("ask", (("ask", (("lead", "home"),), ()),), (("refuse",),)),)
        asking = Site(("in",), (HOME, ("desk", (rows, (), False))), "home")
        ends = [
            ((False,), "refuse", (True,), None),
            ((True, False), "let", (True,), None),
            ((True, True), "lead", (True,), "home"),
        ]
        self.assert_same(all_ends(asking, "desk", "enter", (True,)), ends)
        self.assert_same(letting_answers(asking, "desk", "enter", (True,)), (True, False))

    def test_rules(self):
        self.assert_same(str(Rule("first", "race", lead="instead", again=True, backs=False)), "first race instead again clicks")
        self.assert_same(Rule.named("last cancel put once backs") == Rule("last", "cancel"), True)

    def test_begin(self):
        after = begin(first_site(), Rule("last", "cancel"), (False,)).after
        self.assert_same(after, ((False,), "home", ("home",), 0, None, ()))

    def test_step(self):
        site, rule = first_site(), Rule("last", "cancel")
        second = step(site, rule, begin(site, rule, (True,)).after, ("click", "desk"))
        events = (("guard", "home", "leave", "let"), ("guard", "desk", "enter", "let"), ("loads", "desk"))
        self.assert_same(second.events, events)
        way = ("click", "load", (), "home", ("home", "desk"), 1, 0)
        self.assert_same(second.after, ((True,), "home", ("home",), 0, way, ()))

    def test_doubled(self):
        site, rule = first_site(), Rule("last", "cancel", lead="instead")
        second = step(site, rule, begin(site, rule, (False,)).after, ("click", "desk"))
        events = (
            ("guard", "home", "leave", "let"), ("guard", "desk", "enter", "lead"), ("led", "home"),
            ("guard", "home", "enter", "let"), ("turned", ("home", "home"), 1), ("shown", "home"),
        )
        self.assert_same(second.events, events)
        self.assert_same(faults(site, rule, second), [("doubled", "home")])

    def test_apart(self):
        site, rule = first_site(), Rule("first", "cancel")
        second = step(site, rule, begin(site, rule, (True,)).after, ("click", "desk"))
        third = step(site, rule, second.after, ("load", False))
        self.assert_same(third.events, (("over",),))
        self.assert_same(third.after, ((True,), "home", ("home", "desk"), 1, None, ()))
        self.assert_same(faults(site, rule, third), [("apart", "home")])

    def test_late(self):
        site, rule = first_site(), Rule("last", "race")
        second = step(site, rule, begin(site, rule, (True,)).after, ("click", "desk"))
        third = step(site, rule, second.after, ("back",))
        fourth = step(site, rule, third.after, ("late", 0, True))
        self.assert_same(third.events, (("dropped", "load"),))
        self.assert_same(third.after, ((True,), "home", ("home",), 0, None, ("desk",)))
        self.assert_same(fourth.after, ((True,), "desk", ("home",), 0, None, ()))
        self.assert_same(faults(site, rule, fourth), [("apart", "desk"), ("late", "desk")])

    def test_too_many_leads(self):
        loop = Site((), (HOME, ("loop", ((("lead", "loop"),), (), False))), "home")
        rule = Rule("last", "cancel")
        with self.assertRaises(TooManyLeads) as caught:
            step(loop, rule, begin(loop, rule, ()).after, ("click", "loop"))
        self.assert_same(caught.exception.page, "loop")
