"""Points 12 to 14, 22 and 24: standings, histories and deeds."""

import copy
import itertools
import unittest

from ledelsewhere.rules import Rule, all_rules
from ledelsewhere.sites import Site
from ledelsewhere.standings import all_flags, deeds, is_deed, is_standing, put_page
from tests.helpers import ANY_VALUES, REFUSE, deep_value, replaced, rule_of, same

ASK = ("ask", (), (REFUSE,))
# home has no rows; desk loads and asks before it is entered; cup asks before it is left, three deep.
DESK = ((ASK, ("if", "in", (), (ASK, REFUSE))), (), True)
CUP = ((), (REFUSE, ("ask", (("ask", (), (ASK,)),), ())), False)
SITE = Site(("in", "out"), (("home", ((), (), False)), ("desk", DESK), ("cup", CUP)), "home", keep=3)
RACE = rule_of("first race put again backs")
REST = ((True, False), "home", ("home", "desk"), 1, None, ())
LOAD = ("click", "load", (), "home", ("home", "desk"), 1, 0)
ENTER = ("step", "enter", (1, 1, 0), "cup", ("desk", "cup"), 0, 5)
ANEW = ("click", "anew", (0,), "desk", ("home", "cup", "desk"), 2, 3)
LEAVE = ("step", "leave", (1, 0, 0, 1, 0), "cup", ("home",), 0, 0)
TRIED = ANY_VALUES + (
    "home", "cup", "in", "out", "click", "step", "leave", "enter", "anew", "load", "late", "back", "flip", "answer",
    2, 3, 4, 5, 6, -2, (0,), (1,), (True,), (False,), (0, 0), (1, 1, 0), (1, 0, 0), (1, 0, 0, 1, 0), [0],
    (True, False), (True, 0), (False, True, True), [True, False], (None, True),
    ("home",), ("desk", "cup"), ("cup", "cup"), ("home", "desk", "cup"), ("home",) * 4, ["home"], ("home", "no"), (["home"],),
    REST, LOAD, ENTER, ANEW, LEAVE, list(LOAD), deep_value(20), {"home": ("home",)}, ("home", None), (("home",),),
)


def tried_at(values, at):
    """The tuple with each of the tried values at the index, with that value."""
    return [(replaced(values, at, value), value) for value in TRIED]


class TestAllFlags(unittest.TestCase):
    def site(self, *bits):
        return Site(bits, SITE.pages[:1] + (("cup", ((), (), False)),), "home")

    def test_the_order(self):
        self.assertTrue(same(all_flags(self.site()), [()]))
        self.assertTrue(same(all_flags(self.site("a")), [(False,), (True,)]))
        for bits in (("a", "b"), ("a", "b", "c")):
            self.assertTrue(same(all_flags(self.site(*bits)), list(itertools.product((False, True), repeat=len(bits)))))

    def test_a_new_list_each_time(self):
        site = self.site()
        all_flags(site).clear()
        self.assertEqual(all_flags(site), [()])


class TestPutPage(unittest.TestCase):
    def put(self, keep, history, place, page):
        return put_page(Site((), SITE.pages[:1] + (("cup", ((), (), False)),), "home", keep=keep), history, place, page)

    def test_at_the_last_entry(self):
        self.assertTrue(same(self.put(4, ("home",), 0, "cup"), (("home", "cup"), 1)))
        self.assertTrue(same(self.put(4, ("home", "cup", "home"), 2, "cup"), (("home", "cup", "home", "cup"), 3)))

    def test_the_entries_after_the_place_are_removed(self):
        self.assertTrue(same(self.put(4, ("home", "cup", "home", "home"), 0, "cup"), (("home", "cup"), 1)))
        self.assertTrue(same(self.put(4, ("home", "cup", "home", "home"), 1, "cup"), (("home", "cup", "cup"), 2)))
        self.assertTrue(same(self.put(2, ("home", "home"), 0, "cup"), (("home", "cup"), 1)))

    def test_the_first_entry_is_removed_if_there_are_too_many(self):
        self.assertTrue(same(self.put(2, ("home", "cup"), 1, "cup"), (("cup", "cup"), 1)))
        self.assertTrue(same(self.put(3, ("home", "cup", "cup"), 2, "home"), (("cup", "cup", "home"), 2)))
        self.assertTrue(same(self.put(4, ("home", "cup", "cup", "home"), 3, "cup"), (("cup", "cup", "home", "cup"), 3)))

    def test_the_page_may_be_the_entry_at_the_place(self):
        self.assertTrue(same(self.put(4, ("home",), 0, "home"), (("home", "home"), 1)))

    def test_every_history(self):
        for keep in (2, 3, 4):
            for many in range(1, keep + 1):
                for history in itertools.product(("home", "cup"), repeat=many):
                    for place in range(many):
                        entries = list(history)[:place + 1] + ["cup"]
                        if len(entries) == keep + 1:
                            del entries[0]
                        self.assertTrue(same(self.put(keep, history, place, "cup"), (tuple(entries), len(entries) - 1)))


class TestStanding(unittest.TestCase):
    def assert_tried(self, at, allowed, base=REST, rule=RACE, site=SITE):
        """At this index of the standing the allowed values are right and all other tried ones are wrong."""
        for value, item in tried_at(base, at):
            with self.subTest(at=at, item=item):
                self.assertIs(is_standing(site, rule, value), any(same(item, good) for good in allowed))

    def assert_tried_way(self, way, at, allowed, rule=RACE, site=SITE):
        """At this index of the way the allowed values are right and all other tried ones are wrong."""
        for value, item in tried_at(way, at):
            with self.subTest(way=way, at=at, item=item):
                right = any(same(item, good) for good in allowed)
                self.assertIs(is_standing(site, rule, replaced(REST, 4, value)), right)

    def test_right_ones(self):
        for way in (None, LOAD, ENTER, ANEW, LEAVE):
            for late in ((), ("home",), ("cup", "desk"), ("cup", "cup")):
                value = REST[:4] + (way, late)
                before = copy.deepcopy(value)
                self.assertIs(is_standing(SITE, RACE, value), True)
                self.assertTrue(same(value, before))

    def test_any_values(self):
        for value in TRIED:
            with self.subTest(value=value):
                self.assertIs(is_standing(SITE, RACE, value), same(value, REST))

    def test_the_number_of_items(self):
        for value in (REST[:5], REST + ((),), REST + (None,), list(REST), (REST,)):
            self.assertIs(is_standing(SITE, RACE, value), False)
        for way in (LOAD, ENTER, ANEW, LEAVE):
            for value in (way[:6], way + (0,), list(way), (way,)):
                self.assertIs(is_standing(SITE, RACE, replaced(REST, 4, value)), False)

    def test_the_flags(self):
        self.assert_tried(0, [(True, False)])
        for flags in itertools.product((True, False), repeat=2):
            self.assertIs(is_standing(SITE, RACE, replaced(REST, 0, flags)), True)
        no_bits = Site((), (("home", ((), (), False)), ("desk", ((), (), False)), ("cup", ((), (), False))), "home")
        self.assert_tried(0, [()], site=no_bits)

    def test_the_shown_page(self):
        self.assert_tried(1, ["home", "desk", "cup"])

    def test_the_history(self):
        two = [("desk", "cup"), ("cup", "cup")]
        self.assert_tried(2, two + [("home", "desk", "cup")])
        self.assert_tried(2, two + [("home", "desk", "cup"), ("home",), ("desk",)], base=replaced(REST, 3, 0))
        self.assert_tried(2, [("home", "desk", "cup")], base=replaced(REST, 3, 2))

    def test_the_length_of_a_history(self):
        for keep in (2, 3, 4):
            site = Site(SITE.bits, SITE.pages, "home", keep=keep)
            for many in range(7):
                history = ("home", "desk", "home", "cup", "cup", "home")[:many]
                right = 1 <= many <= keep
                self.assertIs(is_standing(site, RACE, (REST[0], "home", history, 0, None, ())), right)
                way = ("click", "leave", (1,), "cup", history, 0, 0)
                self.assertIs(is_standing(site, RACE, replaced(REST, 4, way)), right)

    def test_the_place(self):
        self.assert_tried(3, [0, 1])
        self.assert_tried(3, [0], base=replaced(REST, 2, ("cup",)))
        self.assert_tried(3, [0, 1, 2], base=replaced(REST, 2, ("cup", "cup", "home")))

    def test_the_way(self):
        self.assert_tried(4, [None, LOAD, ENTER, ANEW, LEAVE])

    def test_late_pages(self):
        self.assert_tried(5, [(), ("desk",), ("home",), ("desk", "cup"), ("cup", "cup")])
        for rule in all_rules():
            for late in (("desk",), ("home", "home")):
                self.assertIs(is_standing(SITE, rule, replaced(REST, 5, late)), rule.newer == "race")
            self.assertIs(is_standing(SITE, rule, REST), True)

    def test_the_kind_of_a_way(self):
        for way in (LOAD, ENTER, ANEW, LEAVE):
            self.assert_tried_way(way, 0, ["click", "step"])

    def test_the_stage(self):
        self.assert_tried_way(LOAD, 1, ["load"])
        self.assert_tried_way(ENTER, 1, ["enter", "anew"])
        self.assert_tried_way(ANEW, 1, ["enter", "anew"])
        self.assert_tried_way(LEAVE, 1, ["leave"])

    def test_anew_only_if_again_is_true(self):
        for rule in all_rules():
            self.assertIs(is_standing(SITE, rule, replaced(REST, 4, ANEW)), rule.again)
            self.assertIs(is_standing(SITE, rule, replaced(REST, 4, ENTER)), True)
            self.assertIs(is_standing(SITE, rule, replaced(REST, 4, LOAD)), True)
            self.assertIs(is_standing(SITE, rule, replaced(REST, 4, LEAVE)), True)

    def test_load_and_anew_only_if_the_target_loads(self):
        desk = ("desk", DESK[:2] + (False,))
        site = Site(SITE.bits, (SITE.pages[0], desk, SITE.pages[2]), "home", keep=3)
        self.assertIs(is_standing(site, RACE, replaced(REST, 4, LOAD)), False)
        self.assertIs(is_standing(site, RACE, replaced(REST, 4, ANEW)), False)
        self.assertIs(is_standing(site, RACE, replaced(REST, 4, ENTER)), True)
        for spot, right in ((0, False), (1, True)):
            self.assertIs(is_standing(SITE, RACE, replaced(REST, 4, replaced(LOAD, 5, spot))), right)

    def test_the_position(self):
        self.assert_tried_way(LOAD, 2, [()])
        self.assert_tried_way(ENTER, 2, [(0,), (1, 1, 0)])
        self.assert_tried_way(ANEW, 2, [(0,), (1, 1, 0)])
        self.assert_tried_way(LEAVE, 2, [(1,), (1, 0, 0), (1, 0, 0, 1, 0)])
        for position in ((False,), (1, True, 0), (1, 1, False), ("0",), (1, 1, 0, 0, 0), (1, 1), (1, 1, -1)):
            self.assertIs(is_standing(SITE, RACE, replaced(REST, 4, replaced(ENTER, 2, position))), False)

    def test_the_left_page(self):
        for way in (LOAD, ENTER, ANEW):
            self.assert_tried_way(way, 3, ["home", "desk", "cup"])
        self.assert_tried_way(LEAVE, 3, ["cup"])

    def test_the_plan(self):
        self.assert_tried_way(replaced(LEAVE, 5, 0), 4, [
            ("home",), ("desk",), ("desk", "cup"), ("cup", "cup"), ("home", "desk", "cup"),
        ])
        self.assert_tried_way(replaced(ENTER, 5, 0), 4, [("desk",), ("desk", "cup")])
        self.assert_tried_way(LOAD, 4, [("home", "desk", "cup")])
        self.assert_tried_way(ANEW, 4, [])

    def test_the_spot(self):
        way = ("click", "leave", (1,), "cup", ("home", "desk"), 1, 0)
        self.assert_tried_way(way, 5, [0, 1])
        self.assert_tried_way(LOAD, 5, [1])
        self.assert_tried_way(LEAVE, 5, [0])
        self.assert_tried_way(ANEW, 5, [2])

    def test_how_often_it_was_led(self):
        for way in (LOAD, ENTER, ANEW, LEAVE):
            self.assert_tried_way(way, 6, [0, 1, 2, 3, 4, 5])

    def test_nothing_else_is_required(self):
        rule = rule_of("last cancel put once clicks")
        # A back does not do the guards under this rule, and no deeds lead to these pages.
        for way in (None, LEAVE, ENTER, replaced(LOAD, 0, "step"), replaced(LOAD, 6, 5)):
            for shown in ("home", "desk", "cup"):
                value = ((False, False), shown, ("cup", "cup", "cup"), 0, way, ())
                self.assertIs(is_standing(SITE, rule, value), True)

    def test_values_that_are_no_standing_anywhere(self):
        site = Site((), (("home", ((), (), False)), ("cup", ((), (), False))), "home")
        right = ((), "home", ("home",), 0, None, ())
        for value in TRIED + (right,):
            self.assertIs(is_standing(site, Rule("last", "cancel"), value), same(value, right))


class TestDeed(unittest.TestCase):
    RIGHT = [
        ("click", "home"), ("click", "desk"), ("click", "cup"), ("back",), ("forward",),
        ("answer", False), ("answer", True), ("load", False), ("load", True),
        ("late", 0, False), ("late", 0, True), ("late", 1, False), ("late", 1, True), ("flip", "in"), ("flip", "out"),
    ]

    def test_the_deeds_of_books(self):
        self.assertTrue(same(deeds(SITE), self.RIGHT))
        self.assertTrue(same(deeds(SITE, flips=True), self.RIGHT))
        self.assertTrue(same(deeds(SITE, flips=False), self.RIGHT[:-2]))

    def test_a_site_without_bits(self):
        site = Site((), (("b", ((), (), False)), ("a", ((), (), False))), "b")
        expected = [("click", "b"), ("click", "a")] + self.RIGHT[3:-2]
        self.assertTrue(same(deeds(site), expected))
        self.assertTrue(same(deeds(site, flips=False), expected))

    def test_flips_is_passed_by_keyword(self):
        with self.assertRaises(TypeError):
            deeds(SITE, False)

    def test_a_new_list_each_time(self):
        deeds(SITE).clear()
        self.assertEqual(len(deeds(SITE)), 15)

    def test_right_ones(self):
        for deed in self.RIGHT:
            self.assertIs(is_deed(SITE, deed), True)

    def test_any_item_in_any_place(self):
        for base in self.RIGHT:
            for at in range(len(base)):
                for value, item in tried_at(base, at):
                    with self.subTest(value=value):
                        self.assertIs(is_deed(SITE, value), any(same(value, deed) for deed in self.RIGHT))

    def test_other_forms(self):
        for deed in self.RIGHT:
            for value in (deed[:-1], deed + (None,), deed + (deed[-1],), list(deed), [deed], (deed,), {deed: deed}, deed[0]):
                with self.subTest(value=value):
                    self.assertIs(is_deed(SITE, value), False)

    def test_any_values(self):
        for value in TRIED + ((None,), ([],), ({},), ("no",), ("back", "back"), ("BACK",), (deep_value(19),)):
            with self.subTest(value=value):
                self.assertIs(is_deed(SITE, value), False)

    def test_the_names_are_those_of_the_site(self):
        other = Site(("desk",), (("in", ((), (), False)), ("out", ((), (), False))), "in")
        self.assertIs(is_deed(other, ("click", "in")), True)
        self.assertIs(is_deed(other, ("click", "desk")), False)
        self.assertIs(is_deed(other, ("flip", "desk")), True)
        self.assertIs(is_deed(other, ("flip", "in")), False)
