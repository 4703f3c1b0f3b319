"""Points 28 and 3: live sites."""

import copy
import random
import unittest

from ledelsewhere.errors import (
    InvalidDeed, InvalidFlags, InvalidStanding, LedError, NothingToUndo, TooManyLeads, UnknownBit, UnknownPage,
)
from ledelsewhere.live import Live
from ledelsewhere.routing import begin, step
from ledelsewhere.rules import Rule, all_rules
from ledelsewhere.sites import Site
from ledelsewhere.standings import all_flags, deeds
from tests.helpers import ANY_VALUES, deep_value, made_deed, made_site, same

# The cup leads to itself for ever, the door asks whether one may enter, and the desk loads.
PAGES = (
    ("home", ((), (), False)),
    ("desk", ((), (), True)),
    ("cup", ((("lead", "cup"),), (), False)),
    ("door", ((("ask", (), (("refuse",),)),), (), False)),
)
SITE = Site(("in", "out"), PAGES, "home")
RULE = Rule("first", "race")


def live_site(flags=(True, False), rule=RULE):
    return Live(SITE, rule, flags)


def all_of(live):
    """All that can be asked of a live site."""
    return (
        live.address, live.shown, live.waiting, live.standing(), live.last_events(), live.deeds_done(), len(live),
        live.seen(), [live[bit] for bit in live.site.bits], live.site.pages, str(live.rule),
    )


class TestBeginning(unittest.TestCase):
    def test_a_start_with_flags(self):
        live = live_site()
        self.assertTrue(same(live.standing(), ((True, False), "home", ("home",), 0, None, ())))
        self.assertEqual((live.address, live.shown, live.waiting), ("home", "home", None))
        self.assertEqual((live.last_events(), live.deeds_done(), len(live)), ((), [], 0))
        self.assertEqual(live.seen(), [("home", "home")])
        self.assertIs(live.site, SITE)
        self.assertIs(live.rule, RULE)

    def test_without_flags_all_are_false(self):
        for live in (Live(SITE, RULE), Live(SITE, RULE, None), Live(SITE, RULE, None, standing=None)):
            self.assertTrue(same(live.standing()[0], (False, False)))

    def test_without_bits(self):
        site = Site((), PAGES, "desk")
        self.assertTrue(same(Live(site, RULE).standing(), Live(site, RULE, ()).standing()))
        self.assertEqual(Live(site, RULE).address, "desk")

    def test_a_given_standing(self):
        standing = ((False, True), "cup", ("home", "desk"), 1, ("step", "load", (), "cup", ("home", "desk"), 1, 5), ("cup",))
        live = Live(SITE, RULE, standing=standing)
        self.assertTrue(same(live.standing(), standing))
        self.assertEqual((live.address, live.shown, live.waiting), ("desk", "cup", "load"))
        self.assertEqual((live.seen(), len(live), live.last_events()), ([("desk", "cup")], 0, ()))
        with self.assertRaises(NothingToUndo):
            live.undo()
        live.load(True)
        self.assertEqual(live.undo(), ("load", True))
        self.assertTrue(same(live.standing(), standing))

    def test_flags_are_refused(self):
        for flags in ANY_VALUES[1:] + ((True,), (True, 0), (True, False, True), [True, False], deep_value(20)):
            with self.subTest(flags=flags), self.assertRaises(InvalidFlags) as caught:
                Live(SITE, RULE, flags)
            self.assertIs(caught.exception.flags, flags)

    def test_standings_are_refused(self):
        start = begin(SITE, RULE, (True, False)).after
        for standing in ANY_VALUES[1:] + (start[:5], start[:3] + (False,) + start[4:], list(start), deep_value(20)):
            for flags in (None, (True, False), "no flags"):
                with self.subTest(standing=standing), self.assertRaises(InvalidStanding):
                    Live(SITE, RULE, flags, standing=standing)

    def test_a_standing_leaves_no_room_for_flags(self):
        start = begin(SITE, RULE, (True, False)).after
        for flags in ANY_VALUES[1:] + ((True, False),):
            with self.subTest(flags=flags), self.assertRaises(InvalidFlags) as caught:
                Live(SITE, RULE, flags, standing=start)
            self.assertIs(caught.exception.flags, flags)

    def test_a_standing_of_another_rule(self):
        late = ((True, False), "home", ("home",), 0, None, ("desk",))
        self.assertEqual(Live(SITE, RULE, standing=late).standing(), late)
        with self.assertRaises(InvalidStanding):
            Live(SITE, Rule("first", "cancel"), standing=late)


class TestDeeds(unittest.TestCase):
    def test_each_deed_returns_its_events(self):
        live = live_site()
        let = ("guard", "home", "leave", "let")
        desk = (let, ("guard", "desk", "enter", "let"), ("turned", ("home", "desk"), 1), ("loads", "desk"))
        self.assertEqual(live.click("desk"), desk)
        self.assertEqual((live.address, live.shown, live.waiting), ("desk", "home", "load"))
        self.assertEqual(live.load(True), (("shown", "desk"),))
        self.assertEqual(live.back()[-1], ("shown", "home"))
        self.assertEqual(live.forward()[-1], ("loads", "desk"))
        self.assertEqual(live.click("door")[0], ("dropped", "load"))
        self.assertEqual(live.waiting, "enter")
        self.assertEqual(live.answer(False)[-1], ("over",))
        self.assertEqual(live.late(0, True), (("late", "desk", True),))
        self.assertEqual(live.perform(("flip", "out")), (("bit", "out", True),))
        self.assertEqual(live.late(1, False), ())
        done = [
            ("click", "desk"), ("load", True), ("back",), ("forward",), ("click", "door"), ("answer", False),
            ("late", 0, True), ("flip", "out"), ("late", 1, False),
        ]
        self.assertTrue(same(live.deeds_done(), done))
        self.assertEqual(len(live), 9)
        self.assertEqual(live.last_events(), ())
        seen = ["home home", "desk home", "desk desk", "home home", "desk home", "desk home", "desk home", "desk desk"]
        self.assertEqual(live.seen(), [tuple(pair.split()) for pair in seen] + [("desk", "desk")] * 2)

    def test_a_deed_that_does_nothing_is_a_deed(self):
        live = live_site()
        for deed in (("click", "home"), ("back",), ("forward",), ("answer", True), ("load", True), ("late", 0, True)):
            before = live.standing()
            self.assertEqual(live.perform(deed), ())
            self.assertEqual(live.standing(), before)
        self.assertEqual((len(live), len(live.seen())), (6, 7))

    def test_perform_refuses_what_is_no_deed(self):
        live = live_site()
        before = all_of(live)
        wrong = (("answer", 1), ("late", True, True), ("late", 2, True), ("click", "no"), ("flip", "no"), ["back"])
        for deed in ANY_VALUES + wrong + (deep_value(20),):
            with self.subTest(deed=deed), self.assertRaises(InvalidDeed) as caught:
                live.perform(deed)
            self.assertIs(caught.exception.deed, deed)
        self.assertEqual(all_of(live), before)

    def test_click_refuses_what_is_no_page(self):
        live = live_site()
        for page in (None, True, 0, "in", "no such", (), ["desk"], {"desk": 1}, deep_value(20)):
            with self.subTest(page=page), self.assertRaises(UnknownPage) as caught:
                live.click(page)
            self.assertIs(caught.exception.page, page)
        self.assertEqual(len(live), 0)

    def test_the_others_refuse_as_perform_does(self):
        live = live_site()
        for value in (None, 0, 1, "yes", (), [True], {}):
            for method, deed in ((live.answer, ("answer", value)), (live.load, ("load", value))):
                with self.assertRaises(InvalidDeed) as caught:
                    method(value)
                self.assertTrue(same(caught.exception.deed, deed))
            with self.assertRaises(InvalidDeed) as caught:
                live.late(0, value)
            self.assertTrue(same(caught.exception.deed, ("late", 0, value)))
        for k in (None, True, False, -1, 2, "0", [0], (0,)):
            with self.assertRaises(InvalidDeed) as caught:
                live.late(k, True)
            self.assertTrue(same(caught.exception.deed, ("late", k, True)))
        self.assertEqual(len(live), 0)

    def test_a_deed_that_is_led_too_often_is_not_added(self):
        live = live_site()
        live.click("desk")
        before = all_of(live)
        for do in (lambda: live.click("cup"), lambda: live.perform(("click", "cup"))):
            with self.assertRaises(TooManyLeads) as caught:
                do()
            self.assertEqual(caught.exception.page, "cup")
            # The way of the desk is under way again.
            self.assertEqual(all_of(live), before)
        self.assertEqual(live.load(True), (("shown", "desk"),))

    def test_deeds_are_those_of_step(self):
        source = random.Random(1)
        for rule in all_rules():
            site = made_site(source)
            flags = source.choice(all_flags(site))
            live, now = Live(site, rule, flags), begin(site, rule, flags).after
            done, seen = [], [(now[2][now[3]], now[1])]
            for _ in range(40):
                deed = made_deed(source, now, deeds(site))
                try:
                    made = step(site, rule, now, deed)
                except TooManyLeads:
                    with self.assertRaises(TooManyLeads):
                        live.perform(deed)
                else:
                    self.assertEqual(live.perform(deed), made.events)
                    now = made.after
                    done.append(deed)
                    seen.append((live.address, live.shown))
                    self.assertEqual(live.last_events(), made.events)
                self.assertTrue(same(live.standing(), now))
                self.assertEqual((live.address, live.shown), (now[2][now[3]], now[1]))
                self.assertEqual(live.waiting, None if now[4] is None else now[4][1])
            self.assertEqual((live.deeds_done(), live.seen(), len(live)), (done, seen, len(done)))


class TestBits(unittest.TestCase):
    def test_reading(self):
        live = live_site()
        self.assertIs(live["in"], True)
        self.assertIs(live["out"], False)
        self.assertIs("in" in live, True)
        self.assertIs("out" in live, True)

    def test_reading_each_bit_now(self):
        # A bit may have the name of a page.
        for bits in (("in",), ("in", "home"), ("zebra", "in", "home")):
            site = Site(bits, PAGES, "home")
            for flags in all_flags(site):
                live = Live(site, RULE, flags)
                given = Live(site, RULE, standing=live.standing())
                for at, bit in enumerate(bits):
                    self.assertIs(live[bit], flags[at])
                    self.assertIs(given[bit], flags[at])
                    live.perform(("flip", bit))
                    self.assertEqual([live[other] for other in bits], [
                        flag != (index <= at) for index, flag in enumerate(flags)
                    ])
                self.assertEqual((live[bits[0]], live[bits[-1]]), (not flags[0], not flags[-1]))
                live.undo()
                self.assertIs(live[bits[-1]], flags[-1])

    def test_what_is_no_bit_of_this_site(self):
        for bits in ((), ("in",), ("in", "out", "mid")):
            live = Live(Site(bits, PAGES, "home"), RULE)
            for value in ANY_VALUES + (deep_value(20), "In", "in ", "home", bits, list(bits), 2, -2):
                with self.subTest(bits=bits, value=value):
                    with self.assertRaises(UnknownBit) as caught:
                        live[value]
                    self.assertIs(caught.exception.bit, value)
                    self.assertIs(value in live, False)
            self.assertEqual(live.deeds_done(), [])

    def test_any_value_may_be_asked_for(self):
        live = live_site()
        for value in (None, True, 0, "home", "", ("in",), ["in"], {"in": 1}, ("in", "out"), deep_value(20)):
            with self.subTest(value=value):
                self.assertIs(value in live, False)
                with self.assertRaises(UnknownBit) as caught:
                    live[value]
                self.assertTrue(same(caught.exception.bit, value))
                for flag in (True, "no flag"):
                    with self.assertRaises(UnknownBit) as caught:
                        live[value] = flag
                    self.assertTrue(same(caught.exception.bit, value))
        self.assertEqual(len(live), 0)

    def test_setting_is_a_flip(self):
        live = live_site()
        live["in"] = False
        live["out"] = True
        self.assertEqual(live.deeds_done(), [("flip", "in"), ("flip", "out")])
        self.assertEqual((live["in"], live["out"]), (False, True))
        self.assertEqual(live.last_events(), (("bit", "out", True),))

    def test_setting_to_the_same_flag_is_no_deed(self):
        live = live_site()
        live["in"] = True
        live["out"] = False
        self.assertEqual((len(live), len(live.seen())), (0, 1))

    def test_what_is_no_flag_is_refused(self):
        live = live_site()
        for flag in (None, 0, 1, "True", (), [True], {}, deep_value(20)):
            with self.subTest(flag=flag), self.assertRaises(InvalidFlags) as caught:
                live["in"] = flag
            self.assertIs(caught.exception.flags, flag)
        self.assertEqual((len(live), live["in"]), (0, True))

    def test_a_live_site_is_not_iterated_over(self):
        with self.assertRaises(TypeError):
            list(live_site())


class TestUndoAndFork(unittest.TestCase):
    def test_undo_down_to_the_beginning(self):
        source = random.Random(2)
        for rule in all_rules()[::3]:
            site = made_site(source)
            live = Live(site, rule, source.choice(all_flags(site)))
            told = [all_of(live)]
            while len(live) < 25:
                try:
                    live.perform(made_deed(source, live.standing(), deeds(site)))
                    told.append(all_of(live))
                except TooManyLeads:
                    self.assertEqual(all_of(live), told[-1])
            for _ in range(25):
                self.assertEqual(all_of(live), told.pop())
                last = live.deeds_done()[-1]
                self.assertEqual(live.undo(), last)
            self.assertEqual([all_of(live)], told)
            for _ in range(2):
                with self.assertRaises(NothingToUndo):
                    live.undo()
                self.assertEqual([all_of(live)], told)

    def test_deeds_go_on_behind_an_undo(self):
        live = live_site()
        live += [("click", "door"), ("answer", True)]
        self.assertEqual((live.shown, live.waiting), ("door", None))
        self.assertEqual(live.undo(), ("answer", True))
        self.assertEqual((live.shown, live.waiting), ("home", "enter"))
        self.assertEqual(live.last_events()[-1], ("asked", "door", "enter"))
        self.assertEqual(live.answer(False), (("guard", "door", "enter", "refuse"), ("over",)))
        self.assertEqual(live.deeds_done(), [("click", "door"), ("answer", False)])
        self.assertEqual(live.seen(), [("home", "home")] * 3)

    def test_a_fork_has_the_same_beginning_and_deeds(self):
        live = live_site()
        live += [("click", "desk"), ("load", True), ("flip", "in")]
        fork = live.fork()
        self.assertIsInstance(fork, Live)
        self.assertIsNot(fork, live)
        self.assertEqual(all_of(fork), all_of(live))
        while len(fork) > 0:
            fork.undo()
        self.assertEqual(all_of(fork), all_of(live_site()))
        with self.assertRaises(NothingToUndo):
            fork.undo()
        self.assertEqual(len(live), 3)

    def test_a_fork_of_a_given_standing(self):
        standing = ((False, True), "cup", ("home", "desk"), 0, None, ("cup", "desk"))
        live = Live(SITE, RULE, standing=standing)
        live.late(1, True)
        fork = live.fork()
        fork.undo()
        self.assertEqual(fork.standing(), standing)
        self.assertEqual(fork.seen(), [("home", "cup")])

    def test_neither_of_them_changes_the_other(self):
        for which in (0, 1):
            live = live_site()
            live += [("click", "desk"), ("load", True)]
            pair = (live, live.fork())
            changed, other = pair[which], pair[1 - which]
            before = all_of(other)
            changed.undo()
            self.assertEqual(all_of(other), before)
            changed.click("door")
            changed["in"] = False
            changed += [("back",), ("back",)]
            self.assertEqual(all_of(other), before)
            self.assertNotEqual(all_of(changed), before)


class TestSeveralDeeds(unittest.TestCase):
    def test_adding_changes_the_live_site_itself(self):
        live = live_site()
        same_live = live
        live += [("click", "desk"), ("load", True)]
        self.assertIs(live, same_live)
        self.assertEqual(same_live.deeds_done(), [("click", "desk"), ("load", True)])
        live += (("back",),)
        self.assertEqual((len(same_live), live.address, live.shown), (3, "home", "home"))
        live += []
        live += ()
        self.assertEqual(len(live), 3)
        self.assertEqual(live.undo(), ("back",))

    def test_all_of_the_deeds_or_none(self):
        live = live_site()
        live.click("door")
        before = all_of(live)
        for deed in ANY_VALUES + (("answer", 1),):
            with self.assertRaises(InvalidDeed) as caught:
                live += [("answer", True), ("flip", "in"), deed, ("click", "cup")]
            self.assertIs(caught.exception.deed, deed)
            self.assertEqual(all_of(live), before)
        with self.assertRaises(TooManyLeads) as caught:
            live += (("answer", True), ("click", "cup"), None)
        self.assertEqual(caught.exception.page, "cup")
        self.assertEqual(all_of(live), before)

    def test_a_trial_takes_all_deeds_back(self):
        live = live_site()
        live.click("desk")
        before = all_of(live)
        tried = [("load", True), ("back",), ("back",), ("click", "door"), ("answer", True)]
        expected = [("desk", "desk"), ("home", "home"), ("home", "home"), ("home", "home"), ("door", "door")]
        self.assertEqual(live.trial(tried), expected)
        self.assertEqual(live.trial(tuple(tried)), expected)
        self.assertEqual(live.trial([]), [])
        self.assertEqual(all_of(live), before)

    def test_a_trial_that_fails_takes_all_deeds_back(self):
        live = live_site()
        live.click("door")
        before = all_of(live)
        with self.assertRaises(InvalidDeed) as caught:
            live.trial([("answer", True), ["back"], ("click", "cup")])
        self.assertEqual(caught.exception.deed, ["back"])
        self.assertEqual(all_of(live), before)
        with self.assertRaises(TooManyLeads):
            live.trial([("answer", True), ("click", "cup"), ["back"]])
        self.assertEqual(all_of(live), before)

    def test_several_deeds_are_the_same_as_one_by_one(self):
        source = random.Random(3)
        for rule in all_rules():
            site = made_site(source)
            live = Live(site, rule)
            one_by_one, tried = live.fork(), []
            while len(tried) < 15:
                deed = made_deed(source, one_by_one.standing(), deeds(site))
                try:
                    one_by_one.perform(deed)
                    tried.append(deed)
                except LedError:
                    continue
            self.assertEqual(live.trial(tried), one_by_one.seen()[1:])
            live += tried
            self.assertEqual(all_of(live), all_of(one_by_one))


class TestLists(unittest.TestCase):
    def test_returned_lists_are_new(self):
        live = live_site()
        live += [("click", "desk"), ("load", True)]
        before = copy.deepcopy(all_of(live))
        for returned in (live.deeds_done(), live.seen(), live.trial([("back",)])):
            returned.append("more")
            returned[0] = None
        self.assertEqual(all_of(live), before)
        self.assertIsNot(live.deeds_done(), live.deeds_done())

    def test_arguments_are_not_changed(self):
        live = live_site()
        given = [("click", "desk"), ("load", True)]
        live.trial(given)
        live += given
        self.assertEqual(given, [("click", "desk"), ("load", True)])
        given.clear()
        self.assertEqual(len(live), 2)
