"""Points 2, 4, 5 and 7: what a site is, and what InvalidSite names."""

import copy
import unittest

from ledelsewhere.errors import InvalidSite
from ledelsewhere.sites import Site
from tests.helpers import ANY_VALUES, REFUSE, deep_value, nest, same, site_with

PLAIN = ((), (), False)
PAGES = (("home", PLAIN), ("desk", PLAIN))
NO_NAMES = ("", "abcdefghi", "A", "a1", "a b", "a\n", "\t", "a_", " a", 0, 1, True, None, ("a",), ["a"], {}, ("a", "b"))


class Checked(unittest.TestCase):
    def assert_wrong(self, part, path, bits=("in",), pages=PAGES, start="home", **keep):
        with self.assertRaises(InvalidSite) as caught:
            Site(bits, pages, start, **keep)
        self.assertTrue(same((caught.exception.part, caught.exception.path), (part, path)), caught.exception)

    def assert_guard_wrong(self, part, position, rows, side="enter", bits=("in", "out")):
        parts = (rows, (), False) if side == "enter" else ((), rows, False)
        pages = (("home", PLAIN), ("desk", parts))
        self.assert_wrong(part, ("desk", side, position), bits=bits, pages=pages)


class TestBits(Checked):
    def test_none_to_three(self):
        for bits in ((), ("in",), ("in", "out"), ("in", "out", "abcdefgh")):
            self.assertEqual(Site(bits, PAGES, "home").bits, bits)

    def test_no_tuple(self):
        for bits in (None, True, 0, "in", ["in"], {"in": 1}, {}, []):
            with self.subTest(bits=bits):
                self.assert_wrong("bits", (), bits=bits)

    def test_four(self):
        self.assert_wrong("bits", (), bits=("a", "b", "c", "d"))

    def test_equal_ones(self):
        self.assert_wrong("bits", (), bits=("a", "a"))
        self.assert_wrong("bits", (), bits=("a", "b", "a"))

    def test_no_name(self):
        for name in NO_NAMES:
            with self.subTest(name=name):
                self.assert_wrong("bits", (), bits=(name,))
                self.assert_wrong("bits", (), bits=("a", name))

    def test_a_bit_may_have_the_name_of_a_page(self):
        site = Site(("desk",), (("home", PLAIN), ("desk", ((("set", "desk", True), ("lead", "desk")), (), True))), "home")
        self.assertEqual(site.bits, ("desk",))


class TestPages(Checked):
    def test_two_to_five(self):
        pages = (("a", PLAIN), ("b", PLAIN), ("c", PLAIN), ("d", PLAIN), ("abcdefgh", PLAIN), ("f", PLAIN))
        for many in (2, 3, 4, 5):
            self.assertEqual(Site((), pages[:many], "a").pages, pages[:many])
        for many in (0, 1, 6):
            self.assert_wrong("pages", (), pages=pages[:many], start="a")

    def test_no_tuple(self):
        for pages in (None, False, 2, "home", list(PAGES), dict(PAGES)):
            with self.subTest(pages=pages):
                self.assert_wrong("pages", (), pages=pages)

    def test_no_pair(self):
        for pair in ("ab", None, 1, list(PAGES[1]), ("desk",), ("desk", PLAIN, 0), (), {"desk": PLAIN, "a": PLAIN}):
            with self.subTest(pair=pair):
                self.assert_wrong("pages", (), pages=(PAGES[0], pair))
                self.assert_wrong("pages", (), pages=(pair, PAGES[0]))

    def test_no_name(self):
        for name in NO_NAMES:
            with self.subTest(name=name):
                self.assert_wrong("pages", (), pages=(PAGES[0], (name, PLAIN)))

    def test_equal_names(self):
        self.assert_wrong("pages", (), pages=(PAGES[0], PAGES[1], ("home", ((REFUSE,), (), True))))

    def test_no_page(self):
        wrong = (None, "abc", [(), (), False], ((), ()), ((), (), False, False), ((), (), 0), ((), (), 1), ((), (), None))
        for page in wrong + (((), (), ()), ((), (), "loads"), ((), (), [True])):
            with self.subTest(page=page):
                self.assert_wrong("pages", (), pages=(PAGES[0], ("desk", page)))

    def test_pages_come_before_all_rows(self):
        self.assert_wrong("pages", (), pages=(("home", (None, None, False)), ("desk", ((), (), 1))))
        self.assert_wrong("pages", (), pages=(("home", (None, 7, True)), ("home", PLAIN)))

    def test_any_value_in_the_place_of_the_rows_is_no_matter_of_the_pages(self):
        for rows in (None, True, 5, "ab", [], {}, [("refuse",)]):
            with self.subTest(rows=rows):
                self.assert_wrong("rows", ("home", "enter", ()), pages=(("home", (rows, rows, True)), PAGES[1]))
                self.assert_wrong("rows", ("home", "leave", ()), pages=(("home", ((), rows, True)), PAGES[1]))


class TestRows(Checked):
    def test_each_form(self):
        rows = (("if", "out", (), (REFUSE,)), ("ask", (REFUSE,), ()), ("set", "in", False), REFUSE)
        for row in rows + (("if", "in", (), ()), ("ask", (), ()), ("set", "out", True)):
            self.assertEqual(site_with((row,), (row,)).guard("desk", "leave"), (row,))
        for page in ("home", "desk"):
            self.assertEqual(site_with((("lead", page),)).guard("desk", "enter"), (("lead", page),))

    def test_lead_rows_stand_in_enter_guards_only(self):
        self.assert_guard_wrong("rows", (0,), (("lead", "home"),), side="leave")
        inside = (("if", "in", (), (("ask", (("lead", "home"),), ()),)),)
        site_with(inside)
        self.assert_guard_wrong("rows", (0, 1, 0, 0, 0), inside, side="leave")

    def test_any_value_for_a_row(self):
        for row in ANY_VALUES + ("refuse", ["refuse"], {"refuse": 1}, ((),), ("",), (None,), ([],), ("wait",)):
            with self.subTest(row=row):
                self.assert_guard_wrong("rows", (0,), (row,))
                self.assert_guard_wrong("rows", (1,), (REFUSE, row), side="leave")

    def test_wrong_lengths(self):
        forms = (("if", "in", (), ()), ("ask", (), ()), ("set", "in", True), REFUSE, ("lead", "home"))
        for form in forms:
            for row in (form[:-1], form + ((),), form + (True,), form + ("home",)):
                with self.subTest(row=row):
                    self.assert_guard_wrong("rows", (0,), (row,))

    def test_unknown_bits(self):
        for bit in ("other", "In", "", "desk", 0, True, None, ["in"], ("in",), {"in": 1}):
            with self.subTest(bit=bit):
                self.assert_guard_wrong("rows", (0,), (("if", bit, (), ()),))
                self.assert_guard_wrong("rows", (0,), (("set", bit, True),))
        self.assert_guard_wrong("rows", (0,), (("if", "in", (), ()),), bits=())

    def test_no_flag_in_a_set_row(self):
        for flag in (0, 1, None, "on", (), [True], (True,)):
            with self.subTest(flag=flag):
                self.assert_guard_wrong("rows", (0,), (("set", "in", flag),))

    def test_unknown_pages(self):
        for page in ("other", "in", "", 0, True, None, ["home"], ("home",), {"home": 1}, PAGES[0]):
            with self.subTest(page=page):
                self.assert_guard_wrong("rows", (0,), (("lead", page),))

    def test_the_lists_of_rows_are_tuples(self):
        for rows in (None, True, 0, "", [], {}, [REFUSE]):
            with self.subTest(rows=rows):
                self.assert_guard_wrong("rows", (0,), (("if", "in", rows, ()),))
                self.assert_guard_wrong("rows", (0,), (("if", "in", (), rows),))
                self.assert_guard_wrong("rows", (0,), (("ask", rows, ()),))
                self.assert_guard_wrong("rows", (0,), (("ask", (), rows),))

    def test_depths(self):
        for branching in (("ask", (), ()), ("if", "in", (), ())):
            for times in (0, 1, 2):
                site_with(nest((branching,), times), nest((branching,), times))
            self.assert_guard_wrong("rows", (0,) + (0, 0) * 3, nest((branching,), 3))
        for row in (REFUSE, ("set", "in", True), ("lead", "home")):
            site_with(nest((row,), 3))
        deepest = (("if", "in", (), (("if", "out", (), (("ask", (), (REFUSE, REFUSE, ("if", "in", (), ()))),)),)),)
        self.assert_guard_wrong("rows", (0, 1, 0, 1, 0, 1, 2), deepest)

    def test_values_that_are_nested_20_deep(self):
        for value in (deep_value(18), deep_value(20)):
            self.assert_guard_wrong("rows", (0,), (value,))
            self.assert_guard_wrong("rows", (0,), (("lead", value),))
            self.assert_guard_wrong("rows", (0, 1, 0), (("ask", (), value),))
        self.assert_guard_wrong("rows", (0,) + (0, 0) * 3, nest((), 20))

    def test_the_first_wrong_row_in_site_order(self):
        rows = (("ask", (REFUSE, "first"), ("second",)), "third")
        self.assert_guard_wrong("rows", (0, 0, 1), rows)
        rows = (("ask", (REFUSE,), (REFUSE, REFUSE, "second")), "third")
        self.assert_guard_wrong("rows", (0, 1, 2), rows)
        rows = (("ask", ("inside",), None), "third")
        self.assert_guard_wrong("rows", (0,), rows)
        rows = (("ask", (("if", "in", (), ()),), ()), ("if", "no", ("inside",), ()))
        self.assert_guard_wrong("rows", (1,), rows)


class TestMany(Checked):
    def test_none_to_eight_rows(self):
        for many in range(9):
            site_with((REFUSE,) * many, (REFUSE,) * many)
        self.assert_guard_wrong("many", (), (REFUSE,) * 9)
        self.assert_guard_wrong("many", (), (REFUSE,) * 30, side="leave")

    def test_rows_count_at_all_depths(self):
        eight = (("ask", (("if", "in", (REFUSE,), (("ask", (REFUSE,), ()), REFUSE)),), (REFUSE,)),)
        site_with(eight)
        self.assert_guard_wrong("many", (), eight + (REFUSE, REFUSE))
        self.assert_guard_wrong("many", (), (("ask", (REFUSE,) * 4, (REFUSE,) * 4),), side="leave")

    def test_the_rows_come_first(self):
        self.assert_guard_wrong("rows", (9,), (REFUSE,) * 9 + ("no",))
        self.assert_guard_wrong("rows", (8, 1, 0), (REFUSE,) * 8 + (("ask", (), (None,)),))


class TestOrder(Checked):
    def test_guards_are_checked_in_order(self):
        many = (REFUSE,) * 9
        no = (None,)
        self.assert_wrong("many", ("home", "enter", ()), pages=(("home", (many, no, False)), ("desk", (no, no, False))))
        self.assert_wrong("rows", ("home", "leave", (0,)), pages=(("home", ((), no, False)), ("desk", (many, many, False))))
        self.assert_wrong("many", ("home", "leave", ()), pages=(("home", ((), many, False)), ("desk", (None, no, False))))
        self.assert_wrong("rows", ("desk", "enter", ()), pages=(("home", PLAIN), ("desk", (None, many, False))))
        self.assert_wrong("rows", ("desk", "leave", ()), pages=(("home", PLAIN), ("desk", ((), [], False))))

    def test_each_part_comes_before_the_next_one(self):
        wrong_rows = (("home", PLAIN), ("desk", ((), (1,), False)))
        self.assert_wrong("bits", (), bits=None, pages=None, start=None, keep=None)
        self.assert_wrong("pages", (), pages=None, start=None, keep=None)
        self.assert_wrong("rows", ("desk", "leave", (0,)), pages=wrong_rows, start=None, keep=None)
        self.assert_wrong("start", (), start=None, keep=None)
        self.assert_wrong("keep", (), keep=None)


class TestStartAndKeep(Checked):
    def test_start(self):
        for start in ("home", "desk"):
            self.assertEqual(Site(("in",), PAGES, start).start, start)
        for start in ("in", "other", "", None, 0, True, [], ["home"], ("home",), {"home": 1}, PAGES[0]):
            with self.subTest(start=start):
                self.assert_wrong("start", (), start=start)

    def test_keep(self):
        for keep in (2, 3, 4):
            self.assertEqual(Site((), PAGES, "home", keep=keep).keep, keep)
        for keep in (0, 1, 5, -2, True, False, None, "3", (2,), [3], {}):
            with self.subTest(keep=keep):
                self.assert_wrong("keep", (), keep=keep)

    def test_keep_is_4_if_it_is_left_out(self):
        self.assertEqual(Site((), PAGES, "home").keep, 4)

    def test_keep_is_passed_by_keyword(self):
        with self.assertRaises(TypeError):
            Site((), PAGES, "home", 3)


class TestArguments(Checked):
    def test_they_are_not_changed(self):
        rows = [("refuse",), {"a": []}]
        pages = (("home", (rows, {}, False)), ("desk", PLAIN))
        before = copy.deepcopy(pages)
        self.assert_wrong("rows", ("home", "enter", ()), pages=pages)
        with self.assertRaises(InvalidSite):
            site_with().with_guard("desk", "leave", rows)
        with self.assertRaises(InvalidSite):
            site_with((REFUSE,)).with_row(("desk", "enter", (0,)), rows)
        self.assertEqual(pages, before)
