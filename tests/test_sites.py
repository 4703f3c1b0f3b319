"""Points 6 and 8 and the methods of a site."""

import unittest

from ledelsewhere.errors import InvalidPath, InvalidSide, InvalidSite, UnknownPage
from ledelsewhere.sites import Site
from tests.helpers import ANY_VALUES, REFUSE, deep_value, same, site_with

SET = ("set", "in", True)
ASK = ("ask", (REFUSE, ("if", "in", (), (SET, REFUSE))), (("lead", "home"),))
IF = ("if", "out", (), (("ask", (), (("ask", (), (SET,)),)),))
PAGES = (("home", ((ASK, SET), (REFUSE,), True)), ("mid", ((), (), False)), ("desk", ((REFUSE,), (SET, IF), False)))
SITE = Site(("in", "out"), PAGES, "mid", keep=2)
PATHS_AND_ROWS = [
    (("home", "enter", (0,)), ASK),
    (("home", "enter", (0, 0, 0)), REFUSE),
    (("home", "enter", (0, 0, 1)), ASK[1][1]),
    (("home", "enter", (0, 0, 1, 1, 0)), SET),
    (("home", "enter", (0, 0, 1, 1, 1)), REFUSE),
    (("home", "enter", (0, 1, 0)), ("lead", "home")),
    (("home", "enter", (1,)), SET),
    (("home", "leave", (0,)), REFUSE),
    (("desk", "enter", (0,)), REFUSE),
    (("desk", "leave", (0,)), SET),
    (("desk", "leave", (1,)), IF),
    (("desk", "leave", (1, 1, 0)), IF[3][0]),
    (("desk", "leave", (1, 1, 0, 1, 0)), ("ask", (), (SET,))),
    (("desk", "leave", (1, 1, 0, 1, 0, 1, 0)), SET),
]


class Raising(unittest.TestCase):
    def assert_raises(self, kind, values, function, *arguments):
        with self.assertRaises(kind) as caught:
            function(*arguments)
        self.assertTrue(same(tuple(vars(caught.exception).values()), values), caught.exception)


class TestParts(Raising):
    def test_attributes_are_the_parts_as_passed(self):
        bits = ("in", "out")
        site = Site(bits, PAGES, "mid", keep=3)
        self.assertIs(site.bits, bits)
        self.assertIs(site.pages, PAGES)
        self.assertEqual((site.start, site.keep), ("mid", 3))

    def test_page_names(self):
        self.assertEqual(SITE.page_names(), ("home", "mid", "desk"))
        self.assertEqual(site_with().page_names(), ("home", "desk"))

    def test_guard(self):
        self.assertEqual(SITE.guard("home", "enter"), (ASK, SET))
        self.assertEqual(SITE.guard("home", "leave"), (REFUSE,))
        self.assertEqual(SITE.guard("mid", "leave"), ())
        self.assertEqual(SITE.guard("desk", "leave"), (SET, IF))

    def test_guard_on_both_sides_of_each_page(self):
        for name, parts in PAGES:
            self.assertIs(SITE.guard(name, "enter"), parts[0])
            self.assertIs(SITE.guard(name, "leave"), parts[1])

    def test_guard_of_what_looks_like_a_side(self):
        for value in ("Enter", "enter ", "leaves", "loads", ("enter",), ["leave"], ("enter", "leave"), 2, -2):
            for page in SITE.page_names():
                with self.subTest(value=value, page=page):
                    self.assert_raises(InvalidSide, (value,), SITE.guard, page, value)
            # Of two things that are wrong the page comes first.
            self.assert_raises(UnknownPage, (value,), SITE.guard, value, value)

    def test_guard_of_wrong_pages_and_sides(self):
        for value in ANY_VALUES + (deep_value(20), "in", "Home"):
            with self.subTest(value=value):
                self.assert_raises(InvalidSide, (value,), SITE.guard, "home", value)
                if value != "desk":
                    self.assert_raises(UnknownPage, (value,), SITE.guard, value, "enter")
        self.assert_raises(UnknownPage, ("no",), SITE.guard, "no", "no")

    def test_loads(self):
        self.assertIs(SITE.loads("home"), True)
        self.assertIs(SITE.loads("mid"), False)
        for value in ANY_VALUES:
            if value != "desk":
                with self.subTest(value=value):
                    self.assert_raises(UnknownPage, (value,), SITE.loads, value)


class TestPaths(Raising):
    def test_row_paths_in_site_order(self):
        self.assertTrue(same(SITE.row_paths(), [path for path, row in PATHS_AND_ROWS]))
        self.assertEqual(site_with().row_paths(), [])

    def test_a_list_that_was_returned_may_be_changed(self):
        SITE.row_paths().clear()
        self.assertEqual(len(SITE.row_paths()), len(PATHS_AND_ROWS))

    def test_row_at_each_path(self):
        for path, row in PATHS_AND_ROWS:
            self.assertEqual(SITE.row_at(path), row)

    def test_row_at_what_is_no_path(self):
        wrong = [
            ("home", "enter", ()), ("home", "enter", (2,)), ("home", "enter", (-1,)), ("home", "enter", (0, 0)),
            ("home", "enter", (0, 0, 2)), ("home", "enter", (0, 2, 0)), ("home", "enter", (0, -1, 0)),
            ("home", "enter", (1, 0, 0)), ("home", "enter", (0, 0, 0, 0, 0)), ("home", "enter", [0]),
            ("home", "enter", (False,)), ("home", "enter", (True,)), ("home", "enter", (0, False, 0)),
            ("home", "enter", (0, 0, True)), ("home", "enter", ("0",)), ("home", "enter", 0),
            ("home", "enter", ([0],)), ("home", "enter", None), ["home", "enter", (0,)], ("home", "enter"),
            ("home", "enter", (0,), ()), ("mid", "enter", (0,)), ("no", "enter", (0,)), ("home", "no", (0,)),
            ([], "enter", (0,)), ("home", {}, (0,)), (0, 0, (0,)), deep_value(20),
        ]
        for path in wrong + list(ANY_VALUES):
            with self.subTest(path=path):
                self.assert_raises(InvalidPath, (path,), SITE.row_at, path)
                self.assert_raises(InvalidPath, (path,), SITE.with_row, path, None)


class TestChanges(Raising):
    def test_with_row_at_each_path(self):
        new = ("ask", (), ())
        at_depth = {1: new, 3: new, 5: new, 7: ("set", "out", False)}
        for path, row in PATHS_AND_ROWS:
            with self.subTest(path=path):
                worth = at_depth[len(path[2])]
                site = SITE.with_row(path, worth)
                self.assertEqual(site.row_at(path), worth)
                self.assertEqual(site.with_row(path, row), SITE)
                self.assertNotEqual(site, SITE)
                self.assertEqual((site.bits, site.start, site.keep), (SITE.bits, "mid", 2))

    def test_with_row_gives_the_whole_guard(self):
        guard = SITE.with_row(("home", "enter", (0, 0, 1, 1, 0)), REFUSE).guard("home", "enter")
        self.assertEqual(guard, (("ask", (REFUSE, ("if", "in", (), (REFUSE, REFUSE))), (("lead", "home"),)), SET))
        guard = SITE.with_row(("home", "enter", (0, 1, 0)), SET).guard("home", "enter")
        self.assertEqual(guard, (("ask", ASK[1], (SET,)), SET))

    def test_with_row_judges_the_new_site(self):
        path = ("desk", "leave", (0,))
        self.assert_raises(InvalidSite, ("rows", path), SITE.with_row, path, ("lead", "home"))
        self.assert_raises(InvalidSite, ("rows", path), SITE.with_row, path, [REFUSE])
        self.assert_raises(InvalidSite, ("rows", path), SITE.with_row, path, deep_value(20))
        inside = ("desk", "leave", (0, 1, 0))
        self.assert_raises(InvalidSite, ("rows", inside), SITE.with_row, path, ("ask", (), (None,)))
        many = ("desk", "leave", ())
        self.assert_raises(InvalidSite, ("many", many), SITE.with_row, path, ("ask", (SET, SET), (SET, SET)))
        deep = ("desk", "leave", (1, 1, 0, 1, 0, 1, 0))
        self.assert_raises(InvalidSite, ("rows", deep), SITE.with_row, deep, ("ask", (), ()))
        self.assertEqual(SITE, Site(("in", "out"), PAGES, "mid", keep=2))

    def test_with_guard(self):
        for page, side in (("home", "enter"), ("home", "leave"), ("mid", "enter"), ("desk", "leave")):
            site = SITE.with_guard(page, side, (REFUSE, SET))
            for other in SITE.page_names():
                for other_side in ("enter", "leave"):
                    changed = (other, other_side) == (page, side)
                    rows = (REFUSE, SET) if changed else SITE.guard(other, other_side)
                    self.assertEqual(site.guard(other, other_side), rows)
                self.assertIs(site.loads(other), SITE.loads(other))
            self.assertEqual((site.bits, site.page_names(), site.start, site.keep), (SITE.bits, ("home", "mid", "desk"), "mid", 2))
        self.assertEqual(SITE.pages, PAGES)

    def test_with_guard_errors_in_order(self):
        self.assert_raises(UnknownPage, ("no",), SITE.with_guard, "no", "no", None)
        self.assert_raises(UnknownPage, ([],), SITE.with_guard, [], "enter", ())
        self.assert_raises(InvalidSide, ("no",), SITE.with_guard, "mid", "no", None)
        self.assert_raises(InvalidSide, ({},), SITE.with_guard, "mid", {}, ())
        self.assert_raises(InvalidSite, ("rows", ("mid", "leave", ())), SITE.with_guard, "mid", "leave", [REFUSE])
        self.assert_raises(InvalidSite, ("rows", ("mid", "leave", (1,))), SITE.with_guard, "mid", "leave", (REFUSE, 1))
        self.assert_raises(InvalidSite, ("many", ("mid", "enter", ())), SITE.with_guard, "mid", "enter", (SET,) * 9)


class TestEqual(unittest.TestCase):
    def test_sites_are_equal_if_their_parts_are(self):
        again = Site(("in", "out"), tuple(list(PAGES)), "mid", keep=2)
        self.assertTrue(SITE == again)
        self.assertFalse(SITE != again)

    def test_each_part_counts(self):
        others = [
            Site(("out", "in"), PAGES, "mid", keep=2),
            Site(("in", "out", "more"), PAGES, "mid", keep=2),
            Site(("in", "out"), PAGES[::-1], "mid", keep=2),
            Site(("in", "out"), PAGES[:2] + (("desk", ((REFUSE,), (SET, IF), True)),), "mid", keep=2),
            Site(("in", "out"), PAGES, "home", keep=2),
            Site(("in", "out"), PAGES, "mid", keep=3),
        ]
        for other in others:
            self.assertFalse(SITE == other)
            self.assertTrue(SITE != other)


class TestQuiet(unittest.TestCase):
    def test_a_set_row_anywhere(self):
        self.assertIs(SITE.is_quiet(), False)
        self.assertIs(site_with((("ask", (), (("if", "in", (SET,), ()),)),)).is_quiet(), False)
        self.assertIs(site_with((), (REFUSE, SET)).is_quiet(), False)

    def test_no_set_row(self):
        self.assertIs(site_with().is_quiet(), True)
        rows = (("ask", (REFUSE,), (("if", "in", (), ()), ("lead", "home"))),)
        self.assertIs(site_with(rows, (REFUSE,)).is_quiet(), True)
