"""Point 26: the faults of a start or a deed."""

import copy
import unittest

from ledelsewhere.judge import KINDS, faults
from ledelsewhere.routing import begin, step
from ledelsewhere.rules import all_rules
from ledelsewhere.sites import Site
from tests.helpers import REFUSE, replaced, rule_of, same

ASK = ("ask", (), (REFUSE,))
EMPTY = ((), (), False)
PLAN = ("home", "desk")
OFF = ("if", "in", (), (REFUSE,))


def site_of(bits=("in",), **pages):
    return Site(bits, tuple(pages.items()), list(pages)[0])


class FaultsCase(unittest.TestCase):
    def assert_faults(self, site, rule, before, deed, expected):
        made = step(site, rule_of(rule), before, deed)
        kept = copy.deepcopy(vars(made))
        self.assertTrue(same(faults(site, rule_of(rule), made), expected), faults(site, rule_of(rule), made))
        self.assertTrue(same(vars(made), kept))


class TestKinds(unittest.TestCase):
    def test_the_kinds(self):
        self.assertEqual(KINDS, ("apart", "barred", "passed", "doubled", "late", "unasked", "written", "round"))

    def test_a_start_has_no_faults(self):
        site = site_of(home=((REFUSE,), (REFUSE,), True), desk=EMPTY)
        for rule in all_rules():
            self.assertEqual(faults(site, rule, begin(site, rule, (False,))), [])

    def test_a_new_list_each_time(self):
        site = site_of(home=EMPTY, desk=EMPTY)
        rule = rule_of("last race put once backs")
        made = step(site, rule, ((True,), "desk", ("home",), 0, None, ()), ("back",))
        faults(site, rule, made).clear()
        self.assertEqual(faults(site, rule, made), [("apart", "desk")])


class TestApart(FaultsCase):
    SITE = site_of(home=EMPTY, desk=((), (), True))
    WAY = ("click", "load", (), "home", PLAN, 1, 0)

    def test_a_failed_load(self):
        before = ((True,), "home", PLAN, 1, self.WAY, ())
        self.assert_faults(self.SITE, "first cancel put once backs", before, ("load", False), [("apart", "home")])
        self.assert_faults(self.SITE, "first cancel put once backs", before, ("load", True), [])

    def test_a_dropped_way(self):
        before = ((True,), "home", PLAN, 1, self.WAY, ())
        self.assert_faults(self.SITE, "first cancel put once backs", before, ("click", "desk"), [("apart", "home")])

    def test_only_at_rest(self):
        before = ((True,), "home", ("home",), 0, None, ())
        self.assert_faults(self.SITE, "first cancel put once backs", before, ("click", "desk"), [])
        before = ((True,), "home", PLAN, 1, self.WAY, ("desk",))
        self.assert_faults(self.SITE, "first race put once backs", before, ("flip", "in"), [])

    def test_also_after_deeds_that_do_nothing(self):
        before = ((True,), "desk", PLAN, 0, None, ())
        for deed in (("back",), ("answer", True), ("load", False), ("late", 0, True), ("flip", "in"), ("click", "home")):
            self.assert_faults(self.SITE, "last cancel put once clicks", before, deed, [("apart", "desk")])


class TestBarred(FaultsCase):
    def test_a_page_that_lets_nobody_in(self):
        site = site_of(home=EMPTY, desk=((OFF,), (), False))
        before = ((False,), "home", ("desk", "home"), 1, None, ())
        self.assert_faults(site, "last cancel put once clicks", before, ("back",), [("barred", "desk"), ("unasked", "desk")])
        before = ((True,), "home", ("desk", "home"), 1, None, ())
        self.assert_faults(site, "last cancel put once clicks", before, ("back",), [("unasked", "desk")])
        self.assert_faults(site, "last cancel put once backs", before, ("back",), [])

    def test_the_flags_are_those_after_the_deed(self):
        site = site_of(home=EMPTY, desk=((OFF, ("set", "in", False)), (), False))
        before = ((True,), "home", ("home",), 0, None, ())
        self.assert_faults(site, "last cancel put once backs", before, ("click", "desk"), [("barred", "desk")])
        site = site_of(home=((("set", "in", True),), (), False), desk=((("if", "in", (REFUSE,), ()),), (), False))
        before = ((True,), "desk", ("desk",), 0, None, ())
        self.assert_faults(site, "last cancel put once backs", before, ("click", "home"), [])

    def test_a_page_that_asks_lets_by_if_some_answers_do(self):
        before = ((False,), "home", ("desk", "home"), 1, None, ())
        for rows, expected in (((ASK,), []), ((ASK, REFUSE), [("barred", "desk")])):
            site = site_of(home=EMPTY, desk=(rows, (), False))
            self.assert_faults(site, "last cancel put once clicks", before, ("back",), expected + [("unasked", "desk")])

    def test_a_late_page(self):
        site = site_of(home=EMPTY, desk=((OFF,), (), True))
        before = ((False,), "home", ("home",), 0, None, ("desk",))
        expected = [("apart", "desk"), ("barred", "desk"), ("late", "desk")]
        self.assert_faults(site, "last race put once backs", before, ("late", 0, True), expected)
        self.assert_faults(site, "last race put once backs", before, ("late", 0, False), [])

    def test_a_page_that_was_shown_before_is_not_newly_shown(self):
        site = site_of(home=EMPTY, desk=((OFF,), (), False))
        before = ((True,), "desk", ("desk",), 0, None, ())
        self.assert_faults(site, "last race put once backs", before, ("flip", "in"), [])

    def test_an_arrival_at_the_shown_page_counts(self):
        site = site_of(home=EMPTY, desk=((OFF,), (), False))
        before = ((False,), "desk", ("desk", "desk"), 1, None, ())
        expected = [("barred", "desk"), ("doubled", "desk"), ("unasked", "desk")]
        self.assert_faults(site, "last cancel put once clicks", before, ("back",), expected)

    def test_the_leave_guard_does_not_count(self):
        site = site_of(home=EMPTY, desk=((), (OFF,), False))
        before = ((False,), "home", ("home",), 0, None, ())
        self.assert_faults(site, "last cancel put once backs", before, ("click", "desk"), [])


class TestPassed(FaultsCase):
    def test_a_page_that_lets_nobody_out(self):
        site = site_of(home=EMPTY, desk=((), (OFF,), False))
        for flag, expected in ((False, [("passed", "desk")]), (True, [])):
            before = ((flag,), "desk", ("home", "desk"), 1, None, ())
            self.assert_faults(site, "last cancel put once clicks", before, ("back",), expected)

    def test_the_flags_are_those_after_the_deed(self):
        site = site_of(home=((("set", "in", False),), (), False), desk=((), (OFF,), False))
        before = ((True,), "desk", ("home", "desk"), 1, None, ())
        self.assert_faults(site, "last cancel put once backs", before, ("click", "home"), [("passed", "desk")])
        site = site_of(home=((("set", "in", True),), (), True), desk=((), (OFF,), False))
        before = ((False,), "desk", ("desk",), 0, ("click", "load", (), "home", ("desk", "home"), 1, 0), ())
        self.assert_faults(site, "last cancel put again backs", before, ("load", True), [])

    def test_only_if_another_page_is_shown(self):
        site = site_of(home=EMPTY, desk=((), (REFUSE,), False))
        before = ((True,), "desk", ("desk", "desk"), 1, None, ())
        self.assert_faults(site, "last cancel put once clicks", before, ("back",), [("doubled", "desk")])
        before = ((True,), "desk", ("desk",), 0, None, ("desk", "home"))
        rule = "last race put once backs"
        self.assert_faults(site, rule, before, ("late", 0, True), [("late", "desk")])
        self.assert_faults(site, rule, before, ("late", 1, True), [("apart", "home"), ("passed", "desk"), ("late", "home")])
        self.assert_faults(site, rule, before, ("late", 1, False), [])
        self.assert_faults(site, rule, before, ("click", "home"), [])

    def test_the_elder_page_is_not_the_left_one(self):
        site = site_of(home=((), (REFUSE,), False), desk=((), (REFUSE,), False), cup=((), (), True))
        way = ("click", "load", (), "desk", ("desk", "cup"), 1, 0)
        before = ((True,), "home", ("desk",), 0, way, ())
        self.assert_faults(site, "last race put once backs", before, ("load", True), [("passed", "home")])

    def test_the_enter_guard_does_not_count(self):
        site = site_of(home=EMPTY, desk=((REFUSE,), (), False))
        before = ((True,), "desk", ("desk",), 0, None, ())
        self.assert_faults(site, "last race put once backs", before, ("click", "home"), [])


class TestDoubled(FaultsCase):
    SITE = site_of(home=EMPTY, desk=EMPTY, cup=((), (), True))

    def test_entries_side_by_side(self):
        for history, expected in (
            (("home",), []), (("home", "desk", "home"), []), (("home", "home"), ["home"]),
            (("desk", "home", "home"), ["home"]), (("home", "desk", "desk", "home"), ["desk"]),
            (("desk", "desk", "home", "home"), ["home", "desk"]), (("home", "home", "home", "home"), ["home"]),
        ):
            before = ((True,), history[0], history, 0, None, ())
            for deed in (("flip", "in"), ("answer", True), ("back",)):
                pairs = [("doubled", page) for page in expected]
                self.assert_faults(self.SITE, "last cancel put once clicks", before, deed, pairs)

    def test_only_at_rest(self):
        way = ("step", "load", (), "home", ("home", "cup"), 1, 0)
        before = ((True,), "home", ("home", "home"), 0, way, ())
        self.assert_faults(self.SITE, "last ignore put once clicks", before, ("flip", "in"), [])
        self.assert_faults(self.SITE, "last ignore put once clicks", before, ("load", False), [("doubled", "home")])


class TestUnasked(FaultsCase):
    LOADING = site_of(home=EMPTY, desk=((("set", "in", True),), (), True))
    PLAIN = site_of(home=EMPTY, desk=((("set", "in", True),), (), False))

    def load_from(self, kind, led):
        return ((True,), "home", PLAN, 0, (kind, "load", (), "home", PLAN, 1, led), ())

    def test_in_the_same_deed(self):
        before = ((True,), "home", PLAN, 0, None, ())
        self.assert_faults(self.PLAIN, "last cancel put once clicks", before, ("forward",), [("unasked", "desk")])
        self.assert_faults(self.PLAIN, "last cancel put once clicks", before, ("click", "desk"), [])
        self.assert_faults(self.PLAIN, "last cancel put once backs", before, ("forward",), [])

    def test_a_guard_without_rows_is_not_missed(self):
        before = ((True,), "desk", PLAN, 1, None, ())
        self.assert_faults(self.PLAIN, "last cancel put once clicks", before, ("back",), [])

    def test_behind_a_load(self):
        unasked = [("unasked", "desk")]
        for rule, kind, led, expected in (
            ("clicks", "step", 0, unasked), ("clicks", "step", 1, []), ("clicks", "click", 0, []), ("backs", "step", 0, []),
        ):
            self.assert_faults(self.LOADING, f"last cancel put once {rule}", self.load_from(kind, led), ("load", True), expected)
            self.assert_faults(self.LOADING, f"last cancel put again {rule}", self.load_from(kind, led), ("load", True), [])
            self.assert_faults(self.LOADING, f"last cancel put once {rule}", self.load_from(kind, led), ("load", False), [])

    def test_a_newer_way_is_judged_by_itself(self):
        # The older way had done the enter guard of its target; the newer one arrives without.
        before = ((True,), "home", PLAN, 0, ("click", "load", (), "home", ("home", "cup"), 1, 0), ())
        site = site_of(home=EMPTY, desk=((("set", "in", True),), (), False), cup=((), (), True))
        for newer in ("cancel", "race"):
            self.assert_faults(site, f"last {newer} put once clicks", before, ("forward",), [("unasked", "desk")])

    def test_behind_answers(self):
        rows = (("ask", (), ()),)
        site = site_of(home=EMPTY, desk=(rows, rows, False))
        for stage, left, expected in (("leave", "desk", [("unasked", "desk")]), ("enter", "home", [])):
            before = ((True,), "home", PLAN, 0, ("step", stage, (0,), left, PLAN, 1, 0), ())
            self.assert_faults(site, "last cancel put once clicks", before, ("answer", True), expected)
        loading = site_of(home=EMPTY, desk=(rows, rows, True))
        before = ((True,), "home", PLAN, 0, ("step", "anew", (0,), "home", PLAN, 1, 0), ())
        self.assert_faults(loading, "last cancel put again clicks", before, ("answer", True), [])

    def test_late_pages_do_not_arrive(self):
        before = ((True,), "home", ("desk",), 0, None, ("desk",))
        self.assert_faults(self.LOADING, "last race put once clicks", before, ("late", 0, True), [("late", "desk")])

    def test_a_step_that_was_led(self):
        site = site_of(home=EMPTY, desk=((("lead", "cup"),), (), True), cup=((("set", "in", True),), (), False))
        before = ((True,), "home", PLAN, 0, ("step", "load", (), "home", PLAN, 1, 0), ())
        self.assert_faults(site, "last cancel put again clicks", before, ("load", True), [])


class TestWritten(FaultsCase):
    LED = (("lead", "cup"),)

    def test_a_step_that_was_led(self):
        site = site_of(home=EMPTY, desk=(self.LED, (), False), cup=EMPTY)
        before = ((True,), "home", ("desk", "home"), 1, None, ())
        self.assert_faults(site, "last cancel instead once backs", before, ("back",), [("written", "desk")])
        self.assert_faults(site, "last cancel put once backs", before, ("back",), [])
        self.assert_faults(site, "last cancel instead once clicks", before, ("back",), [("barred", "desk"), ("unasked", "desk")])

    def test_not_a_click(self):
        site = site_of(home=EMPTY, desk=(self.LED, (), False), cup=EMPTY)
        before = ((True,), "home", ("home", "desk"), 0, None, ())
        self.assert_faults(site, "last cancel instead once backs", before, ("click", "desk"), [])
        before = ((True,), "home", ("desk", "home", "home"), 0, None, ())
        expected = [("written", "home")]
        site = site_of(home=(self.LED, (), False), desk=EMPTY, cup=EMPTY)
        self.assert_faults(site, "last cancel instead once backs", before, ("forward",), expected)

    def test_behind_answers_and_loads(self):
        site = site_of(home=EMPTY, desk=((ASK,), (), True), cup=EMPTY)
        for kind, expected in (("step", [("written", "home")]), ("click", [])):
            for turn, stage, deed in (("first", "enter", "answer"), ("last", "load", "load"), ("last", "anew", "answer")):
                rule = f"{turn} cancel instead again backs"
                position = () if stage == "load" else (0,)
                before = ((True,), "cup", ("home", "cup"), 1, (kind, stage, position, "cup", ("desk", "cup"), 0, 1), ())
                made = step(site, rule_of(rule), before, (deed, True))
                if stage == "load":
                    self.assertEqual(faults(site, rule_of(rule), made), [])
                    made = step(site, rule_of(rule), made.after, ("answer", True))
                self.assertEqual(faults(site, rule_of(rule), made), expected)
                self.assertEqual(faults(site, rule_of(rule).with_part("lead", "put"), made), [])

    def test_nothing_is_written_without_a_way(self):
        site = site_of(home=EMPTY, desk=EMPTY)
        before = ((True,), "home", ("desk", "home"), 1, None, ("desk",))
        for deed in (("answer", True), ("load", True), ("flip", "in"), ("late", 1, True), ("forward",), ("click", "home")):
            self.assert_faults(site, "last race instead once backs", before, deed, [])

    def test_a_refusal_writes_nothing(self):
        site = site_of(home=EMPTY, desk=(self.LED, (), False), cup=((REFUSE,), (), False))
        before = ((True,), "home", ("desk", "home"), 1, None, ())
        self.assert_faults(site, "first cancel instead once backs", before, ("back",), [])

    def test_the_same_page_is_not_written_over(self):
        site = site_of(home=EMPTY, desk=((("if", "in", (("set", "in", False), ("lead", "desk")), ()),), (), False))
        before = ((True,), "home", ("desk", "home"), 1, None, ())
        self.assert_faults(site, "last cancel instead once backs", before, ("back",), [])

    def test_the_history_may_be_too_short(self):
        site = site_of(home=EMPTY, desk=((), (), True))
        before = ((True,), "home", ("home",), 0, ("step", "load", (), "home", ("home", "desk"), 1, 0), ())
        self.assert_faults(site, "last cancel instead once backs", before, ("load", True), [])
        before = ((True,), "home", ("home", "home"), 0, ("step", "load", (), "home", ("home", "desk"), 1, 0), ())
        self.assert_faults(site, "last cancel instead once backs", before, ("load", True), [("written", "home")])

    def test_the_kind_is_that_of_the_newer_way(self):
        site = site_of(home=EMPTY, desk=(self.LED, (), False), cup=((), (), True))
        rule = "first cancel instead once backs"
        click = ("click", "load", (), "home", ("desk", "cup"), 1, 0)
        before = ((True,), "home", ("desk", "home"), 1, click, ())
        self.assert_faults(site, rule, before, ("back",), [("written", "desk")])
        before = ((True,), "home", ("home", "desk"), 0, replaced(click, 0, "step"), ())
        self.assert_faults(site, rule, before, ("click", "cup"), [])


class TestOrder(FaultsCase):
    def test_many_faults_in_their_order(self):
        site = site_of(home=((), (REFUSE,), False), cup=EMPTY, desk=((REFUSE,), (), True))
        before = ((True,), "home", ("desk", "desk", "cup", "cup"), 2, None, ("desk",))
        expected = [
            ("apart", "desk"), ("barred", "desk"), ("passed", "home"), ("doubled", "cup"), ("doubled", "desk"), ("late", "desk"),
        ]
        self.assert_faults(site, "last race put once backs", before, ("late", 0, True), expected)
        before = ((True,), "home", ("home", "cup", "cup"), 1, ("step", "load", (), "home", ("desk", "desk", "cup"), 0, 0), ())
        expected = [("barred", "desk"), ("passed", "home"), ("doubled", "desk"), ("unasked", "desk"), ("written", "home")]
        self.assert_faults(site, "last cancel instead once clicks", before, ("load", True), expected)
