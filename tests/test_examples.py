"""The examples of the document that speak of sites and guards."""

import unittest

from ledelsewhere.errors import InvalidSite
from ledelsewhere.guards import all_ends, letting_answers, resume_guard, run_guard
from ledelsewhere.sites import Site
from tests.helpers import same

HOME = ("home", ((), (), False))


def first_site():
    return Site(("in",), (HOME, ("desk", ((("if", "in", (), (("lead", "home"),)),), (), True))), "home")


class TestExamples(unittest.TestCase):
    def assert_same(self, value, expected):
        self.assertTrue(same(value, expected), value)

    def test_page_names(self):
        self.assert_same(first_site().page_names(), ("home", "desk"))

    def test_row_paths(self):
        self.assert_same(first_site().row_paths(), [("desk", "enter", (0,)), ("desk", "enter", (0, 1, 0))])

    def test_a_lead_row_in_a_leave_guard(self):
        pages = (("home", ((("lead", "desk"),), (), False)), ("desk", ((), (("lead", "home"),), False)))
        with self.assertRaises(InvalidSite) as caught:
            Site(("in",), pages, "home")
        self.assert_same((caught.exception.part, caught.exception.path), ("rows", ("desk", "leave", (0,))))

    def test_with_row(self):
        site = first_site().with_row(("desk", "enter", (0, 1, 0)), ("refuse",))
        self.assert_same(site.guard("desk", "enter"), (("if", "in", (), (("refuse",),)),))

    def test_run_guard(self):
        self.assert_same(run_guard(first_site(), "desk", "enter", (False,)), ("lead", (False,), "home"))

    def test_resume_guard(self):
        rows = (("if", "in", (("ask", (), (("refuse",),)),), ()), ("set", "in", False))
        asking = Site(("in",), (HOME, ("desk", (rows, (), False))), "home")
        self.assert_same(run_guard(asking, "desk", "enter", (True,)), ("wait", (True,), (0, 0, 0)))
        self.assert_same(resume_guard(asking, "desk", "enter", (True,), (0, 0, 0), [True]), ("let", (False,), None))

    def test_all_ends_and_letting_answers(self):
        rows = (("ask", (("ask", (("lead", "home"),), ()),), (("refuse",),)),)
        asking = Site(("in",), (HOME, ("desk", (rows, (), False))), "home")
        ends = [
            ((False,), "refuse", (True,), None),
            ((True, False), "let", (True,), None),
            ((True, True), "lead", (True,), "home"),
        ]
        self.assert_same(all_ends(asking, "desk", "enter", (True,)), ends)
        self.assert_same(letting_answers(asking, "desk", "enter", (True,)), (True, False))
