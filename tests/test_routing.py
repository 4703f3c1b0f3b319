"""Points 15 to 25: starts, deeds, ways and their events."""

import copy
import unittest

from ledelsewhere.errors import InvalidDeed, InvalidFlags, InvalidStanding, TooManyLeads
from ledelsewhere.routing import Step, begin, step
from ledelsewhere.rules import Rule, all_rules
from ledelsewhere.sites import Site
from ledelsewhere.standings import deeds
from tests.helpers import ANY_VALUES, REFUSE, deep_value, replaced, rule_of, same

ASK = ("ask", (), (REFUSE,))
EMPTY = ((), (), False)
LET = "let"


def site_of(bits=(), keep=4, **pages):
    """A site that starts at its first page."""
    return Site(bits, tuple(pages.items()), list(pages)[0], keep=keep)


def rest(shown, history, place, flags=(), late=()):
    return (flags, shown, history, place, None, late)


def guard(page, side, outcome):
    return ("guard", page, side, outcome)


class RoutingCase(unittest.TestCase):
    def assert_step(self, site, rule, before, deed, events, after, done=()):
        """The deed has these events and ends in this standing; returns the standing."""
        standing = copy.deepcopy(before)
        made = step(site, rule_of(rule), standing, deed)
        self.assertIsInstance(made, Step)
        found = [made.deed, made.before, made.events, made.after, made.done]
        for value, expected in zip(found, [deed, before, events, after, done]):
            self.assertTrue(same(value, expected), f"{value} is not {expected}")
        self.assertTrue(same(standing, before))
        return made.after

    def assert_nothing(self, site, rule, before, deed):
        return self.assert_step(site, rule, before, deed, (), before)


class TestBegin(unittest.TestCase):
    def test_a_start(self):
        site = site_of(("in", "out"), home=((ASK,), (ASK,), True), desk=EMPTY)
        for rule in all_rules():
            made = begin(site, rule, (True, False))
            self.assertIsInstance(made, Step)
            found = (made.deed, made.before, made.after, made.events, made.done)
            self.assertTrue(same(found, (None, None, ((True, False), "home", ("home",), 0, None, ()), (), ())))

    def test_the_start_page_and_no_bits(self):
        site = Site((), (("home", EMPTY), ("desk", EMPTY)), "desk")
        self.assertTrue(same(begin(site, Rule("last", "race"), ()).after, ((), "desk", ("desk",), 0, None, ())))

    def test_wrong_flags(self):
        site = site_of(("in", "out"), home=EMPTY, desk=EMPTY)
        wrong = ((True,), (True, True, True), (True, 1), (0, False), [True, True], (True, None), deep_value(20))
        for flags in ANY_VALUES + wrong:
            with self.subTest(flags=flags), self.assertRaises(InvalidFlags) as caught:
                begin(site, Rule("last", "cancel"), flags)
            self.assertTrue(same(caught.exception.flags, flags))
        with self.assertRaises(InvalidFlags):
            begin(site_of(home=EMPTY, desk=EMPTY), Rule("last", "cancel"), [])


class TestErrors(unittest.TestCase):
    SITE = site_of(("in",), home=EMPTY, desk=((("lead", "desk"),), (), False))
    RULE = Rule("last", "cancel")
    START = ((False,), "home", ("home",), 0, None, ())

    def test_wrong_standings(self):
        wrong = (
            self.START[:5], list(self.START), replaced(self.START, 0, (0,)), replaced(self.START, 3, False),
            replaced(self.START, 5, ("desk",)), deep_value(20),
        )
        for standing in ANY_VALUES + wrong:
            for deed in (("click", "home"), "no deed"):
                with self.subTest(standing=standing), self.assertRaises(InvalidStanding) as caught:
                    step(self.SITE, self.RULE, standing, deed)
                self.assertEqual(vars(caught.exception), {})

    def test_wrong_deeds(self):
        wrong = (
            ("click",), ("click", "no"), ("click", "in"), ["back"], ("back", None), ("answer", 1), ("answer", 0), ("load", None),
            ("late", True, True), ("late", False, True), ("late", 2, True), ("late", 0, 1), ("flip", "desk"), deep_value(20),
        )
        for deed in ANY_VALUES + wrong:
            with self.subTest(deed=deed), self.assertRaises(InvalidDeed) as caught:
                step(self.SITE, self.RULE, self.START, deed)
            self.assertTrue(same(caught.exception.deed, deed))

    def test_a_wrong_deed_under_way(self):
        site = site_of(home=EMPTY, desk=((), (), True))
        before = step(site, self.RULE, begin(site, self.RULE, ()).after, ("click", "desk")).after
        with self.assertRaises(InvalidDeed):
            step(site, self.RULE, before, ("load", 1))

    def test_too_many_leads_comes_last(self):
        with self.assertRaises(TooManyLeads) as caught:
            step(self.SITE, self.RULE, self.START, ("click", "desk"))
        self.assertEqual(caught.exception.page, "desk")


class TestLeave(RoutingCase):
    """Point 16."""

    SITE = site_of(("in",), home=((), (("set", "in", True), ASK), False), desk=EMPTY, cup=EMPTY)
    START = ((False,), "home", ("home",), 0, None, ())

    def waiting(self, kind, plan, spot):
        return ((True,), "home", ("home",), 0, (kind, "leave", (1,), "home", plan, spot, 0), ())

    def test_it_waits(self):
        for rule in ("last cancel put once backs", "first race instead again clicks"):
            events = (("bit", "in", True), ("asked", "home", "leave"))
            done = (("home", "leave", (0,)), ("home", "leave", (1,)))
            self.assert_step(
                self.SITE, rule, self.START, ("click", "desk"), events, self.waiting("click", ("home", "desk"), 1), done,
            )

    def test_the_answer_lets(self):
        before = self.waiting("click", ("home", "desk"), 1)
        events = (
            guard("home", "leave", LET), guard("desk", "enter", LET), ("turned", ("home", "desk"), 1), ("shown", "desk"),
        )
        after = rest("desk", ("home", "desk"), 1, (True,))
        self.assert_step(self.SITE, "last cancel put once clicks", before, ("answer", True), events, after)

    def test_the_answer_refuses(self):
        before = self.waiting("click", ("home", "desk"), 1)
        events = (guard("home", "leave", "refuse"), ("over",))
        after = rest("home", ("home",), 0, (True,))
        for rule in ("last cancel put once clicks", "first race put once clicks"):
            self.assert_step(self.SITE, rule, before, ("answer", False), events, after, (("home", "leave", (1, 1, 0)),))

    def test_a_refusal_without_an_answer(self):
        site = site_of(home=((), (REFUSE,), False), desk=EMPTY)
        for rule in ("first ignore put once clicks", "last race instead again backs"):
            events = (guard("home", "leave", "refuse"), ("over",))
            before = rest("home", ("home",), 0)
            self.assert_step(site, rule, before, ("click", "desk"), events, before, (("home", "leave", (0,)),))

    def test_steps_do_it_only_if_backs_is_true(self):
        before = rest("home", ("cup", "home", "desk"), 1, (False,))
        for deed, page, spot in ((("back",), "cup", 0), (("forward",), "desk", 2)):
            self.assert_step(
                self.SITE, "first cancel put once backs", before, deed,
                (("bit", "in", True), ("asked", "home", "leave")),
                ((True,), "home", before[2], 1, ("step", "leave", (1,), "home", before[2], spot, 0), ()),
                (("home", "leave", (0,)), ("home", "leave", (1,))),
            )
            events = (("turned", before[2], spot), ("shown", page))
            self.assert_step(
                self.SITE, "first cancel put once clicks", before, deed, events, rest(page, before[2], spot, (False,)),
            )

    def test_the_guard_is_that_of_the_shown_page_not_of_the_address(self):
        before = rest("home", ("cup",), 0, (False,))
        after = ((True,), "home", ("cup",), 0, ("click", "leave", (1,), "home", ("cup", "desk"), 1, 0), ())
        events = (("bit", "in", True), ("asked", "home", "leave"))
        done = (("home", "leave", (0,)), ("home", "leave", (1,)))
        self.assert_step(self.SITE, "first cancel put once clicks", before, ("click", "desk"), events, after, done)

    def test_a_late_page_changes_nothing_of_the_way(self):
        way = ("click", "leave", (1,), "home", ("home", "desk"), 1, 0)
        before = ((True,), "home", ("home",), 0, way, ("cup",))
        after = ((True,), "cup", ("home",), 0, way, ())
        self.assert_step(self.SITE, "last race put once backs", before, ("late", 0, True), (("late", "cup", True),), after)
        events = (guard("home", "leave", "refuse"), ("over",))
        done = (("home", "leave", (1, 1, 0)),)
        end = rest("cup", ("home",), 0, (True,))
        self.assert_step(self.SITE, "last race put once backs", after, ("answer", False), events, end, done)


class TestEnter(RoutingCase):
    """Point 17."""

    ASKING = (("set", "in", True), ASK)

    def test_it_waits_and_lets(self):
        site = site_of(("in",), home=EMPTY, desk=(self.ASKING, (), False))
        rule = "first cancel put once clicks"
        after = self.assert_step(
            site, rule, rest("home", ("home",), 0, (False,)), ("click", "desk"),
            (guard("home", "leave", LET), ("bit", "in", True), ("asked", "desk", "enter")),
            ((True,), "home", ("home",), 0, ("click", "enter", (1,), "home", ("home", "desk"), 1, 0), ()),
            (("desk", "enter", (0,)), ("desk", "enter", (1,))),
        )
        self.assert_step(
            site, rule, after, ("answer", True),
            (guard("desk", "enter", LET), ("turned", ("home", "desk"), 1), ("shown", "desk")),
            rest("desk", ("home", "desk"), 1, (True,)),
        )
        self.assert_step(
            site, rule, after, ("answer", False), (guard("desk", "enter", "refuse"), ("over",)),
            rest("home", ("home",), 0, (True,)), (("desk", "enter", (1, 1, 0)),),
        )

    def test_two_ask_rows_one_after_the_other(self):
        site = site_of(home=EMPTY, desk=((("ask", (ASK,), ()), ASK), (), False))
        rule = "last cancel put once clicks"
        way = ("click", "enter", (0,), "home", ("home", "desk"), 1, 0)
        before = ((), "home", ("home",), 0, way, ())
        for flag, where in ((True, (0, 0, 0)), (False, (1,))):
            after = replaced(before, 4, replaced(way, 2, where))
            done = (("desk", "enter", where),)
            self.assert_step(site, rule, before, ("answer", flag), (("asked", "desk", "enter"),), after, done)

    def test_steps_do_it_only_if_backs_is_true(self):
        site = site_of(("in",), home=(self.ASKING, (), False), desk=EMPTY)
        before = rest("desk", ("home", "desk"), 1, (False,))
        self.assert_step(
            site, "last cancel put once backs", before, ("back",),
            (guard("desk", "leave", LET), ("bit", "in", True), ("asked", "home", "enter")),
            ((True,), "desk", ("home", "desk"), 1, ("step", "enter", (1,), "desk", ("home", "desk"), 0, 0), ()),
            (("home", "enter", (0,)), ("home", "enter", (1,))),
        )
        self.assert_step(
            site, "last cancel put once clicks", before, ("back",),
            (("turned", ("home", "desk"), 0), ("shown", "home")), rest("home", ("home", "desk"), 0, (False,)),
        )

    def test_a_lead_under_put_and_instead(self):
        site = site_of(home=EMPTY, desk=((("lead", "cup"),), (), False), cup=EMPTY)
        for lead, history in (("put", ("home", "desk", "cup")), ("instead", ("home", "cup"))):
            place = len(history) - 1
            events = (
                guard("home", "leave", LET), guard("desk", "enter", "lead"), ("led", "cup"), guard("cup", "enter", LET),
                ("turned", history, place), ("shown", "cup"),
            )
            for rest_of_rule in ("once clicks", "again backs"):
                self.assert_step(
                    site, f"last cancel {lead} {rest_of_rule}", rest("home", ("home",), 0), ("click", "desk"),
                    events, rest("cup", history, place), (("desk", "enter", (0,)),),
                )

    def test_a_lead_of_a_step(self):
        site = site_of(home=EMPTY, desk=((("lead", "cup"),), (), False), cup=((ASK,), (), False))
        before = rest("home", ("desk", "home"), 1)
        for lead, plan, spot in (("put", ("desk", "cup"), 1), ("instead", ("cup", "home"), 0)):
            events = (guard("home", "leave", LET), guard("desk", "enter", "lead"), ("led", "cup"), ("asked", "cup", "enter"))
            after = ((), "home", ("desk", "home"), 1, ("step", "enter", (0,), "home", plan, spot, 1), ())
            done = (("desk", "enter", (0,)), ("cup", "enter", (0,)))
            self.assert_step(site, f"first race {lead} once backs", before, ("back",), events, after, done)

    def test_a_lead_when_the_plan_is_full(self):
        site = site_of(keep=2, home=EMPTY, desk=((("lead", "cup"),), (), False), cup=EMPTY)
        before = rest("home", ("cup", "home"), 1)
        for lead, history in (("put", ("desk", "cup")), ("instead", ("home", "cup"))):
            events = (
                guard("home", "leave", LET), guard("desk", "enter", "lead"), ("led", "cup"), guard("cup", "enter", LET),
                ("turned", history, 1), ("shown", "cup"),
            )
            after = rest("cup", history, 1)
            done = (("desk", "enter", (0,)),)
            self.assert_step(site, f"last ignore {lead} once backs", before, ("click", "desk"), events, after, done)

    def test_once_led_a_step_does_the_enter_guard_without_backs(self):
        site = site_of(home=EMPTY, desk=((("lead", "cup"),), (), True), cup=((REFUSE,), (), False))
        way = ("step", "load", (), "home", ("desk", "home"), 0, 0)
        before = ((), "home", ("desk", "home"), 1, way, ())
        events = (guard("desk", "enter", "lead"), ("led", "cup"), guard("cup", "enter", "refuse"), ("over",))
        done = (("desk", "enter", (0,)), ("cup", "enter", (0,)))
        self.assert_step(site, "last cancel put again clicks", before, ("load", True), events, rest("home", before[2], 1), done)

    def test_the_page_led_to_may_be_the_shown_one(self):
        site = site_of(home=EMPTY, desk=((("lead", "home"),), (), False))
        events = (
            guard("home", "leave", LET), guard("desk", "enter", "lead"), ("led", "home"), guard("home", "enter", LET),
            ("turned", ("home", "home"), 1), ("shown", "home"),
        )
        after = rest("home", ("home", "home"), 1)
        before = rest("home", ("home",), 0)
        done = (("desk", "enter", (0,)),)
        self.assert_step(site, "last cancel instead once backs", before, ("click", "desk"), events, after, done)


class TestLoad(RoutingCase):
    """Points 18 to 20."""

    SITE = site_of(home=EMPTY, desk=((), (), True))
    WAY = ("click", "load", (), "home", ("home", "desk"), 1, 0)

    def test_the_address_turns_first_or_last(self):
        guards = (guard("home", "leave", LET), guard("desk", "enter", LET))
        before = rest("home", ("home",), 0)
        turned = ("turned", ("home", "desk"), 1)
        first = self.assert_step(
            self.SITE, "first cancel put once backs", before, ("click", "desk"), guards + (turned, ("loads", "desk")),
            ((), "home", ("home", "desk"), 1, self.WAY, ()),
        )
        last = self.assert_step(
            self.SITE, "last cancel put once backs", before, ("click", "desk"), guards + (("loads", "desk"),),
            ((), "home", ("home",), 0, self.WAY, ()),
        )
        after = rest("desk", ("home", "desk"), 1)
        self.assert_step(self.SITE, "first cancel put once backs", first, ("load", True), (("shown", "desk"),), after)
        self.assert_step(self.SITE, "last cancel put once backs", last, ("load", True), (turned, ("shown", "desk")), after)

    def test_a_load_fails(self):
        for turn, history, place in (("first", ("home", "desk"), 1), ("last", ("home",), 0)):
            before = ((), "home", history, place, self.WAY, ())
            for again in ("once", "again"):
                rule = f"{turn} cancel put {again} backs"
                self.assert_step(self.SITE, rule, before, ("load", False), (("over",),), rest("home", history, place))

    def test_without_a_load_the_address_turns_before_the_page_is_shown(self):
        events = (guard("desk", "leave", LET), guard("home", "enter", LET), ("turned", ("desk", "home"), 1), ("shown", "home"))
        for turn in ("first", "last"):
            before = rest("desk", ("desk",), 0)
            after = rest("home", ("desk", "home"), 1)
            self.assert_step(self.SITE, f"{turn} race put again backs", before, ("click", "home"), events, after)

    def test_anew_is_done_whatever_the_kind(self):
        site = site_of(("in",), home=EMPTY, desk=((("set", "in", True),), (), True))
        for kind in ("click", "step"):
            for turn, turned in (("first", ()), ("last", (("turned", ("home", "desk"), 1),))):
                before = ((False,), "home", ("home", "desk"), 0, replaced(self.WAY, 0, kind), ())
                place = 0 if turn == "first" else 1
                self.assert_step(
                    site, f"{turn} cancel put again clicks", before, ("load", True),
                    (("bit", "in", True), guard("desk", "enter", LET)) + turned + (("shown", "desk"),),
                    rest("desk", ("home", "desk"), place, (True,)), (("desk", "enter", (0,)),),
                )

    def test_anew_refuses_waits_and_lets(self):
        site = site_of(home=EMPTY, desk=((ASK,), (), True))
        rule = "last race put again backs"
        before = ((), "home", ("home",), 0, self.WAY, ("home",))
        waiting = replaced(before, 4, replaced(replaced(self.WAY, 1, "anew"), 2, (0,)))
        done = (("desk", "enter", (0,)),)
        self.assert_step(site, rule, before, ("load", True), (("asked", "desk", "enter"),), waiting, done)
        self.assert_step(
            site, rule, waiting, ("answer", False), (guard("desk", "enter", "refuse"), ("over",)),
            rest("home", ("home",), 0, (), ("home",)), (("desk", "enter", (0, 1, 0)),),
        )
        self.assert_step(
            site, rule, waiting, ("answer", True),
            (guard("desk", "enter", LET), ("turned", ("home", "desk"), 1), ("shown", "desk")),
            rest("desk", ("home", "desk"), 1, (), ("home",)),
        )
        refusing = site_of(home=EMPTY, desk=((REFUSE,), (), True))
        self.assert_step(
            refusing, rule, before, ("load", True), (guard("desk", "enter", "refuse"), ("over",)),
            rest("home", ("home",), 0, (), ("home",)), done,
        )

    def test_anew_leads_to_another_turn_and_load(self):
        site = site_of(home=EMPTY, desk=((("lead", "cup"),), (), True), cup=((), (), True))
        for lead, plan in (("put", ("home", "desk", "cup")), ("instead", ("home", "cup"))):
            spot = len(plan) - 1
            before = ((), "home", ("home", "desk"), 1, self.WAY, ())
            events = (
                guard("desk", "enter", "lead"), ("led", "cup"), guard("cup", "enter", LET), ("turned", plan, spot), ("loads", "cup"),
            )
            after = ((), "home", plan, spot, ("click", "load", (), "home", plan, spot, 1), ())
            done = (("desk", "enter", (0,)),)
            self.assert_step(site, f"first cancel {lead} again backs", before, ("load", True), events, after, done)

    def test_anew_waits_and_then_leads(self):
        site = site_of(home=EMPTY, desk=((("ask", (("lead", "desk"),), ()),), (), True))
        rule = "last cancel instead again clicks"
        way = ("step", "anew", (0,), "home", ("home", "desk"), 1, 4)
        before = ((), "home", ("home", "desk"), 0, way, ())
        after = replaced(before, 4, ("step", "enter", (0,), "home", ("home", "desk"), 1, 5))
        events = (guard("desk", "enter", "lead"), ("led", "desk"), ("asked", "desk", "enter"))
        done = (("desk", "enter", (0,)), ("desk", "enter", (0, 0, 0)))
        after = self.assert_step(site, rule, before, ("answer", True), events, after, done)
        # Only the stage load has the position ().
        events = (guard("desk", "enter", LET), ("loads", "desk"))
        loading = replaced(before, 4, ("step", "load", (), "home", ("home", "desk"), 1, 5))
        self.assert_step(site, rule, after, ("answer", False), events, loading)

    def test_the_target_may_be_the_page_that_is_shown(self):
        before = rest("home", ("home", "home"), 1)
        for backs, guards in (("backs", (guard("home", "leave", LET), guard("home", "enter", LET))), ("clicks", ())):
            events = guards + (("turned", ("home", "home"), 0), ("shown", "home"))
            after = rest("home", ("home", "home"), 0)
            self.assert_step(self.SITE, f"last cancel put once {backs}", before, ("back",), events, after)


class TestTooManyLeads(RoutingCase):
    """Point 21."""

    LOOP = (("ask", (("lead", "loop"),), (("lead", "loop"),)),)

    def test_the_fifth_answer_leads_and_the_sixth_raises(self):
        for lead in ("put", "instead"):
            for keep in (2, 4):
                site = site_of(keep=keep, home=EMPTY, loop=(self.LOOP, (), False))
                rule = Rule("last", "ignore", lead=lead)
                now = step(site, rule, begin(site, rule, ()).after, ("click", "loop")).after
                for times in range(5):
                    self.assertEqual(now[4][6], times)
                    made = step(site, rule, now, ("answer", times % 2 == 0))
                    self.assertIn(("led", "loop"), made.events)
                    now = made.after
                history = ("home", "loop") if lead == "instead" else (("home",) + ("loop",) * 6)[-keep:]
                self.assertEqual(now[4], ("click", "enter", (0,), "home", history, len(history) - 1, 5))
                before = copy.deepcopy(now)
                for flag in (False, True, False):
                    with self.assertRaises(TooManyLeads) as caught:
                        step(site, rule, now, ("answer", flag))
                    self.assertEqual(caught.exception.page, "loop")
                    self.assertTrue(same(now, before))
                for deed in (("click", "home"), ("click", "loop"), ("back",), ("forward",), ("load", True)):
                    self.assertTrue(same(step(site, rule, now, deed).after, before))

    def test_the_page_is_that_of_the_sixth_lead_row(self):
        pages = {name: ((("lead", to),), (), False) for name, to in (("a", "b"), ("b", "c"), ("c", "a"))}
        site = site_of(home=EMPTY, **pages)
        for first, sixth in (("a", "a"), ("b", "b"), ("c", "c")):
            with self.assertRaises(TooManyLeads) as caught:
                step(site, Rule("first", "cancel"), begin(site, Rule("first", "cancel"), ()).after, ("click", first))
            self.assertEqual(caught.exception.page, sixth)

    def test_leads_are_counted_over_all_stages(self):
        site = site_of(home=EMPTY, desk=((("lead", "desk"),), (), True))
        rule = Rule("last", "cancel", again=True)
        for led in range(6):
            way = ("click", "load", (), "home", ("home", "desk"), 1, led)
            with self.assertRaises(TooManyLeads):
                step(site, rule, ((), "home", ("home",), 0, way, ()), ("load", True))
        way = ("click", "load", (), "home", ("home", "desk"), 1, 5)
        letting = site_of(home=EMPTY, desk=((), (), True))
        self.assertEqual(step(letting, rule, ((), "home", ("home",), 0, way, ()), ("load", True)).after[1], "desk")

    def test_exactly_five_leads(self):
        pages = {name: ((("lead", to),), (), False) for name, to in (("a", "b"), ("b", "c"), ("c", "d"))}
        rows = (("if", "in", (), (("set", "in", True), ("lead", "a"))),)
        site = site_of(("in",), a=pages["a"], b=pages["b"], c=pages["c"], d=(rows, (), False), e=EMPTY)
        rule = Rule("last", "cancel", lead="instead")
        now = ((False,), "e", ("e",), 0, None, ())
        # From b: to c, to d, to a, to b, to c; the sixth lead would be to d.
        with self.assertRaises(TooManyLeads) as caught:
            step(site, rule, now, ("click", "b"))
        self.assertEqual(caught.exception.page, "d")
        # From c: to d, to a, to b, to c, to d, which lets now.
        made = step(site, rule, now, ("click", "c"))
        self.assertEqual([event[1] for event in made.events if event[0] == "led"], ["d", "a", "b", "c", "d"])
        self.assertEqual(made.after, ((True,), "d", ("e", "d"), 1, None, ()))

    def test_nothing_has_changed(self):
        rows = (("set", "in", True), ("lead", "loop"))
        site = site_of(("in",), home=EMPTY, desk=((), (), True), loop=(rows, (), False))
        for newer in ("cancel", "race"):
            for turn in ("first", "last"):
                rule = Rule(turn, newer)
                before = step(site, rule, begin(site, rule, (False,)).after, ("click", "desk")).after
                kept = copy.deepcopy(before)
                with self.assertRaises(TooManyLeads):
                    step(site, rule, before, ("click", "loop"))
                self.assertTrue(same(before, kept))
                self.assertEqual(step(site, rule, before, ("load", True)).after[1], "desk")


class TestDeeds(RoutingCase):
    """Point 22, at rest and where nothing happens."""

    SITE = site_of(("in", "out"), home=EMPTY, desk=((), (), True), cup=EMPTY)
    RULE = "last race put once backs"
    HISTORY = ("home", "cup", "home")

    def test_deeds_that_do_nothing_at_rest(self):
        before = rest("cup", self.HISTORY, 0, (False, True))
        for deed in deeds(self.SITE, flips=False):
            if deed not in (("click", "desk"), ("click", "cup"), ("forward",)):
                self.assert_nothing(self.SITE, self.RULE, before, deed)

    def test_a_click_of_the_address(self):
        before = rest("cup", self.HISTORY, 2, (False, True))
        self.assert_nothing(self.SITE, self.RULE, before, ("click", "home"))
        # The page of this click is shown, but it is not that of the address.
        history = self.HISTORY + ("cup",)
        events = (guard("cup", "leave", LET), guard("cup", "enter", LET), ("turned", history, 3), ("shown", "cup"))
        after = rest("cup", history, 3, (False, True))
        self.assert_step(self.SITE, self.RULE, before, ("click", "cup"), events, after)

    def test_the_plan_of_a_click(self):
        for keep, place, history in (
            (2, 0, ("home", "cup")), (2, 1, ("home", "cup")), (3, 1, ("home", "home", "cup")), (4, 1, ("home", "home", "cup")),
        ):
            site = Site(self.SITE.bits, self.SITE.pages, "home", keep=keep)
            before = rest("home", ("home", "home"), place, (False, True))
            events = (
                guard("home", "leave", LET), guard("cup", "enter", LET), ("turned", history, len(history) - 1), ("shown", "cup"),
            )
            after = rest("cup", history, len(history) - 1, (False, True))
            self.assert_step(site, self.RULE, before, ("click", "cup"), events, after)

    def test_back_and_forward_at_the_ends(self):
        flags = (True, True)
        self.assert_nothing(self.SITE, self.RULE, rest("home", ("home",), 0, flags), ("back",))
        self.assert_nothing(self.SITE, self.RULE, rest("home", ("home",), 0, flags), ("forward",))
        self.assert_nothing(self.SITE, self.RULE, rest("home", self.HISTORY, 0, flags), ("back",))
        self.assert_nothing(self.SITE, self.RULE, rest("home", self.HISTORY, 2, flags), ("forward",))

    def test_back_and_forward(self):
        for place, deed, spot in ((2, ("back",), 1), (1, ("back",), 0), (0, ("forward",), 1), (1, ("forward",), 2)):
            page = self.HISTORY[spot]
            events = (
                guard("home", "leave", LET), guard(page, "enter", LET), ("turned", self.HISTORY, spot), ("shown", page),
            )
            before = rest("home", self.HISTORY, place, (True, True))
            after = rest(page, self.HISTORY, spot, (True, True))
            self.assert_step(self.SITE, self.RULE, before, deed, events, after)

    def test_answer_and_load_do_nothing_at_the_other_stages(self):
        site = site_of(home=((), (ASK,), False), desk=((ASK,), (), True))
        plan = ("home", "desk")
        for way in (
            ("click", "leave", (0,), "home", plan, 1, 0), ("click", "enter", (0,), "home", plan, 1, 0),
            ("click", "anew", (0,), "home", plan, 1, 0),
        ):
            before = ((), "home", ("home",), 0, way, ())
            for flag in (False, True):
                self.assert_nothing(site, "last cancel put again backs", before, ("load", flag))
        before = ((), "home", ("home",), 0, ("click", "load", (), "home", plan, 1, 0), ())
        for flag in (False, True):
            self.assert_nothing(site, "last cancel put again backs", before, ("answer", flag))

    def test_late_pages(self):
        way = ("click", "load", (), "home", ("home", "desk"), 1, 0)
        for under_way in (None, way):
            for late in ((), ("cup",), ("cup", "desk"), ("desk", "desk")):
                before = ((True, True), "home", ("home",), 0, under_way, late)
                for at in (0, 1):
                    for flag in (False, True):
                        if at >= len(late):
                            self.assert_nothing(self.SITE, self.RULE, before, ("late", at, flag))
                            continue
                        page = late[at]
                        after = (
                            (True, True), page if flag else "home", ("home",), 0, under_way, late[:at] + late[at + 1:],
                        )
                        events = (("late", page, flag),)
                        self.assert_step(self.SITE, self.RULE, before, ("late", at, flag), events, after)

    def test_flips(self):
        way = ("click", "load", (), "home", ("home", "desk"), 1, 0)
        for under_way in (None, way):
            before = ((False, True), "home", ("home",), 0, under_way, ())
            self.assert_step(
                self.SITE, self.RULE, before, ("flip", "in"), (("bit", "in", True),), replaced(before, 0, (True, True)),
            )
            self.assert_step(
                self.SITE, self.RULE, before, ("flip", "out"), (("bit", "out", False),), replaced(before, 0, (False, False)),
            )

    def test_an_answer_is_judged_with_the_flags_of_now(self):
        rows = (("if", "in", (("ask", (), ()), ("if", "in", (REFUSE,), ())), ()),)
        site = site_of(("in",), home=EMPTY, desk=(rows, (), False))
        way = ("click", "enter", (0, 0, 0), "home", ("home", "desk"), 1, 0)
        for flag, outcome in ((True, "refuse"), (False, LET)):
            made = step(site, rule_of(self.RULE), ((flag,), "home", ("home",), 0, way, ()), ("answer", True))
            self.assertEqual(made.events[0], guard("desk", "enter", outcome))
            self.assertEqual(made.done[0], ("desk", "enter", (0, 0, 1)))


class TestNewer(RoutingCase):
    """Point 23."""

    SITE = site_of(home=((), (ASK,), False), desk=((), (), True), cup=((ASK,), (), True))
    HISTORY = ("cup", "home", "cup")
    WAYS = (
        ("click", "leave", (0,), "home", HISTORY[:2] + ("desk",), 2, 0),
        ("step", "enter", (0,), "home", HISTORY, 0, 0),
        ("click", "anew", (0,), "home", HISTORY, 2, 1),
        ("click", "load", (), "home", HISTORY[:2] + ("desk",), 2, 0),
    )
    NEWER = (("click", "home"), ("click", "desk"), ("click", "cup"), ("back",), ("forward",))

    def standing(self, way, late=(), place=1):
        return ((), "desk", self.HISTORY, place, way, late)

    def test_ignore(self):
        for way in self.WAYS:
            for place in (0, 1, 2):
                for deed in self.NEWER:
                    self.assert_nothing(self.SITE, "first ignore put again backs", self.standing(way, (), place), deed)

    def test_after_the_drop_it_is_as_at_rest(self):
        for newer in ("cancel", "race"):
            rule = rule_of(f"first {newer} put again backs")
            for way in self.WAYS:
                for place in (0, 1, 2):
                    late = (way[4][way[5]],) if newer == "race" and way[1] == "load" else ()
                    for deed in self.NEWER:
                        made = step(self.SITE, rule, self.standing(way, (), place), deed)
                        plain = step(self.SITE, rule, self.standing(None, late, place), deed)
                        self.assertTrue(same(made.events, (("dropped", way[1]),) + plain.events))
                        self.assertTrue(same((made.after, made.done), (plain.after, plain.done)))

    def test_it_is_dropped_also_if_nothing_more_happens(self):
        way = self.WAYS[3]
        for newer, late in (("cancel", ()), ("race", ("desk",))):
            rule = f"last {newer} put once backs"
            for place, deed in ((1, ("click", "home")), (0, ("back",)), (2, ("forward",)), (0, ("click", "cup"))):
                after = self.standing(None, late, place)
                self.assert_step(self.SITE, rule, self.standing(way, (), place), deed, (("dropped", "load"),), after)

    def test_only_a_way_that_waited_for_a_load_is_late(self):
        for way in self.WAYS[:3]:
            after = self.standing(None, ("home",))
            rule = "last race put again backs"
            self.assert_step(
                self.SITE, rule, self.standing(way, ("home",)), ("click", "home"), (("dropped", way[1]),), after,
            )

    def test_at_most_two_are_late(self):
        for late, after in (
            ((), ("desk",)), (("cup",), ("cup", "desk")), (("desk",), ("desk", "desk")), (("home", "cup"), ("cup", "desk")),
        ):
            self.assert_step(
                self.SITE, "first race put once backs", self.standing(self.WAYS[3], late), ("click", "home"),
                (("dropped", "load"),), self.standing(None, after),
            )

    def test_the_late_page_is_the_target_of_now(self):
        way = replaced(self.WAYS[3], 5, 0)
        after = self.standing(None, ("cup",))
        before = self.standing(way)
        self.assert_step(self.SITE, "last race put once backs", before, ("click", "home"), (("dropped", "load"),), after)

    def test_what_was_turned_and_set_stays(self):
        site = site_of(("in",), home=EMPTY, desk=((("set", "in", True),), (), True))
        for turn, history, place in (("first", ("home", "desk"), 1), ("last", ("home",), 0)):
            rule = Rule(turn, "cancel")
            under_way = step(site, rule, begin(site, rule, (False,)).after, ("click", "desk")).after
            made = step(site, rule, under_way, ("click", history[place]))
            self.assertTrue(same(made.after, ((True,), "home", history, place, None, ())))


class TestDone(RoutingCase):
    """Point 25: the rows that were done and the order of the events."""

    def test_all_rows_in_site_order_without_duplicates(self):
        desk = (("if", "in", (("lead", "home"),), (("set", "in", True), ("lead", "desk"))),)
        site = site_of(("in",), home=((("set", "in", True),), (), False), desk=(desk, (), False), cup=((), (("set", "in", False),), False))
        before = rest("cup", ("cup",), 0, (True,))
        events = (
            ("bit", "in", False), guard("cup", "leave", LET), ("bit", "in", True), guard("desk", "enter", "lead"), ("led", "desk"),
            guard("desk", "enter", "lead"), ("led", "home"), ("bit", "in", True), guard("home", "enter", LET),
            ("turned", ("cup", "home"), 1), ("shown", "home"),
        )
        done = (
            ("home", "enter", (0,)), ("desk", "enter", (0,)), ("desk", "enter", (0, 0, 0)), ("desk", "enter", (0, 1, 0)),
            ("desk", "enter", (0, 1, 1)), ("cup", "leave", (0,)),
        )
        after = rest("home", ("cup", "home"), 1, (True,))
        self.assert_step(site, "last cancel instead once backs", before, ("click", "desk"), events, after, done)

    def test_rows_that_are_not_reached_are_not_done(self):
        rows = (("if", "in", (ASK, ("set", "in", True)), (REFUSE,)), ("set", "in", False))
        site = site_of(("in",), home=EMPTY, desk=(rows, (), False))
        made = step(site, Rule("last", "cancel"), begin(site, Rule("last", "cancel"), (True,)).after, ("click", "desk"))
        self.assertEqual(made.done, (("desk", "enter", (0,)), ("desk", "enter", (0, 0, 0))))
        made = step(site, Rule("last", "cancel"), made.after, ("answer", True))
        self.assertEqual(made.done, (("desk", "enter", (0, 0, 1)), ("desk", "enter", (1,))))
        self.assertEqual(made.events[:2], (("bit", "in", True), ("bit", "in", False)))

    def test_set_rows_have_their_event_also_if_nothing_changes(self):
        site = site_of(("in",), home=((), (("set", "in", True),) * 2, False), desk=EMPTY)
        made = step(site, Rule("last", "cancel"), begin(site, Rule("last", "cancel"), (True,)).after, ("click", "desk"))
        self.assertEqual(made.events[:3], (("bit", "in", True), ("bit", "in", True), guard("home", "leave", LET)))

    def test_turned_also_if_nothing_changes(self):
        site = site_of(home=EMPTY, desk=((), (), True))
        way = ("step", "load", (), "home", ("home", "desk"), 1, 0)
        before = ((), "home", ("home", "desk"), 1, way, ())
        events = (("turned", ("home", "desk"), 1), ("shown", "desk"))
        self.assert_step(site, "last cancel put once backs", before, ("load", True), events, rest("desk", ("home", "desk"), 1))


class TestUnreachable(RoutingCase):
    """Point 25: step works from every standing, also from those that no deeds lead to."""

    SITE = site_of(home=EMPTY, desk=((ASK,), (ASK,), True))

    def test_a_step_that_waits_at_a_guard_that_it_would_not_do(self):
        rule = "last cancel put once clicks"
        way = ("step", "leave", (0,), "desk", ("home", "desk"), 1, 0)
        before = ((), "home", ("home",), 0, way, ())
        loading = replaced(before, 4, ("step", "load", (), "desk", ("home", "desk"), 1, 0))
        self.assert_step(self.SITE, rule, before, ("answer", True), (guard("desk", "leave", LET), ("loads", "desk")), loading)

    def test_a_step_that_was_led_does_the_enter_guard_behind_the_leave_guard(self):
        way = ("step", "leave", (0,), "desk", ("home", "desk"), 1, 5)
        before = ((), "home", ("home",), 0, way, ())
        events = (guard("desk", "leave", LET), ("asked", "desk", "enter"))
        after = replaced(before, 4, ("step", "enter", (0,), "desk", ("home", "desk"), 1, 5))
        done = (("desk", "enter", (0,)),)
        self.assert_step(self.SITE, "last cancel put once clicks", before, ("answer", True), events, after, done)

    def test_a_plan_that_does_not_fit_the_history(self):
        way = ("step", "load", (), "desk", ("desk", "desk", "desk"), 0, 2)
        before = ((), "desk", ("home",), 0, way, ())
        events = (("turned", ("desk", "desk", "desk"), 0), ("shown", "desk"))
        after = rest("desk", ("desk", "desk", "desk"), 0)
        self.assert_step(self.SITE, "last ignore put once backs", before, ("load", True), events, after)


class TestArguments(unittest.TestCase):
    """Point 2: no function changes its arguments."""

    SITE = site_of(("in",), home=((), (("set", "in", True), ASK), True), desk=((("lead", "cup"),), (), True), cup=EMPTY)

    def test_values_that_are_refused(self):
        rule = Rule("last", "race")
        flags, standing, deed = [True], [[True], "home", ["home"], 0, None, []], ["click", ["desk"]]
        with self.assertRaises(InvalidFlags) as caught:
            begin(self.SITE, rule, flags)
        self.assertIs(caught.exception.flags, flags)
        with self.assertRaises(InvalidStanding):
            step(self.SITE, rule, standing, deed)
        with self.assertRaises(InvalidDeed) as caught:
            step(self.SITE, rule, begin(self.SITE, rule, (True,)).after, deed)
        self.assertIs(caught.exception.deed, deed)
        self.assertTrue(same((flags, standing, deed), ([True], [[True], "home", ["home"], 0, None, []], ["click", ["desk"]])))

    def test_site_and_rule(self):
        for rule in all_rules():
            site_before, rule_before = copy.deepcopy(vars(self.SITE)), copy.deepcopy(vars(rule))
            now = begin(self.SITE, rule, (False,)).after
            for deed in (("click", "desk"), ("answer", True), ("load", True), ("back",), ("answer", True), ("load", True)):
                kept, before = copy.deepcopy(now), now
                now = step(self.SITE, rule, before, deed).after
                self.assertTrue(same(before, kept))
            self.assertTrue(same((vars(self.SITE), vars(rule)), (site_before, rule_before)))
