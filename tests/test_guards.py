"""Points 9 and 10: how a guard is done, and all its ends."""

import copy
import itertools
import random
import unittest

from ledelsewhere.errors import InvalidFlags, InvalidPosition, InvalidSide, UnknownPage
from ledelsewhere.guards import all_ends, lets, letting_answers, resume_guard, run_guard
from ledelsewhere.sites import Site
from tests.helpers import (
    ANY_VALUES, REFUSE, deep_value, labelled, made_rows, nest, rest_from, same, site_with,
)

HOME = ("lead", "home")
YES = ("set", "in", True)
NO = ("set", "in", False)
OUT = ("set", "out", True)
WORDS = ("if", "if", "ask", "ask", "ask", "set", "set", "refuse", "lead")
FUNCTIONS = (run_guard, resume_guard, all_ends, letting_answers, lets)


def run(rows, flags, answers=()):
    return run_guard(site_with(rows), "desk", "enter", flags, answers)


def resume(rows, flags, position, answers=()):
    return resume_guard(site_with(rows), "desk", "enter", flags, position, answers)


def call(function, site, page, side, flags, position=(0,)):
    if function == resume_guard:
        return function(site, page, side, flags, position)
    return function(site, page, side, flags)


class TestRun(unittest.TestCase):
    def test_no_rows(self):
        self.assertEqual(run((), (True, False)), ("let", (True, False), None))

    def test_no_bits(self):
        self.assertEqual(run_guard(site_with((HOME,), bits=()), "desk", "enter", ()), ("lead", (), "home"))

    def test_refuse_and_lead_end_the_guard(self):
        self.assertEqual(run((OUT, REFUSE, YES), (False, False)), ("refuse", (False, True), None))
        self.assertEqual(run((OUT, HOME, YES), (False, False)), ("lead", (False, True), "home"))
        self.assertEqual(run((("lead", "desk"), HOME), (False, False)), ("lead", (False, False), "desk"))
        self.assertEqual(run((("if", "in", (), (HOME,)), REFUSE), (False, False)), ("lead", (False, False), "home"))

    def test_set_rows(self):
        self.assertEqual(run((YES, OUT), (False, False)), ("let", (True, True), None))
        self.assertEqual(run((NO,), (True, True)), ("let", (False, True), None))
        self.assertEqual(run((NO, YES, NO), (False, True)), ("let", (False, True), None))
        self.assertIs(run((YES,), (False, False))[1][0], True)

    def test_three_bits(self):
        site = site_with((("if", "c", (("set", "a", True),), (("set", "b", False),)),), bits=("a", "b", "c"))
        self.assertEqual(run_guard(site, "desk", "enter", (False, True, True)), ("let", (True, True, True), None))
        self.assertEqual(run_guard(site, "desk", "enter", (False, True, False)), ("let", (False, False, False), None))

    def test_an_if_row_looks_at_the_bit_at_that_moment(self):
        rows = (("if", "in", (NO,), (REFUSE,)), ("if", "in", (REFUSE,), (OUT,)))
        self.assertEqual(run(rows, (True, False)), ("let", (False, True), None))
        self.assertEqual(run(rows, (False, False)), ("refuse", (False, False), None))

    def test_the_guard_goes_on_behind_the_rows_inside(self):
        rows = nest((), 2) + (OUT,)
        self.assertEqual(run(rows, (False, False), (True, True)), ("let", (False, True), None))
        rows = (("if", "in", (("if", "out", (NO,), ()), REFUSE), ()), OUT)
        self.assertEqual(run(rows, (True, True)), ("refuse", (False, True), None))

    def test_answers_are_taken_in_order(self):
        rows = (("ask", (YES,), (NO,)), ("ask", (("set", "out", False),), (OUT,)))
        self.assertEqual(run(rows, (False, False), (True, False)), ("let", (True, True), None))
        self.assertEqual(run(rows, (True, True), [False, True]), ("let", (False, False), None))

    def test_wait(self):
        rows = (YES, ("ask", (OUT, ("ask", (), ())), (REFUSE,)))
        self.assertEqual(run(rows, (False, False)), ("wait", (True, False), (1,)))
        self.assertEqual(run(rows, (False, False), (True,)), ("wait", (True, True), (1, 0, 1)))
        self.assertEqual(run(rows, (False, False), (False,)), ("refuse", (True, False), None))

    def test_answers_that_are_left_over(self):
        self.assertEqual(run((), (True, True), (False, True, False)), ("let", (True, True), None))
        self.assertEqual(run((("ask", (REFUSE,), ()),), (True, True), [True, True]), ("refuse", (True, True), None))

    def test_the_leave_guard(self):
        site = site_with((HOME,), (REFUSE,))
        self.assertEqual(run_guard(site, "desk", "leave", (True, True)), ("refuse", (True, True), None))
        self.assertEqual(run_guard(site, "desk", "enter", (True, True)), ("lead", (True, True), "home"))
        self.assertEqual(run_guard(site, "home", "leave", (True, True)), ("let", (True, True), None))

    def test_arguments_are_not_changed(self):
        site = site_with((("ask", (YES,), ()), OUT))
        before = copy.deepcopy(site)
        answers = [True, False]
        run_guard(site, "desk", "enter", (False, False), answers)
        resume_guard(site, "desk", "enter", (False, False), (0,), answers)
        self.assertEqual(answers, [True, False])
        self.assertEqual(site, before)


class TestResume(unittest.TestCase):
    ROWS = (("if", "in", (("ask", (NO,), ()),), (("ask", (HOME,), ()), ("ask", (), (YES,)))), OUT)

    def test_no_answers(self):
        for flags in ((True, False), (False, True)):
            for position in ((0, 0, 0), (0, 1, 0), (0, 1, 1)):
                self.assertEqual(resume(self.ROWS, flags, position), ("wait", flags, position))
                self.assertEqual(resume(self.ROWS, flags, position, []), ("wait", flags, position))

    def test_the_first_answer_is_the_one_to_that_row(self):
        self.assertEqual(resume(self.ROWS, (True, False), (0, 0, 0), (True,)), ("let", (False, True), None))
        self.assertEqual(resume(self.ROWS, (True, False), (0, 0, 0), (False, True)), ("let", (True, True), None))
        self.assertEqual(resume(self.ROWS, (False, False), (0, 1, 0), [False]), ("wait", (False, False), (0, 1, 1)))
        self.assertEqual(resume(self.ROWS, (False, False), (0, 1, 0), [False, False]), ("let", (True, True), None))

    def test_the_if_row_is_not_looked_at_again(self):
        self.assertEqual(resume(self.ROWS, (False, False), (0, 0, 0), (True,)), ("let", (False, True), None))
        self.assertEqual(resume(self.ROWS, (True, False), (0, 1, 0), (True,)), ("lead", (True, False), "home"))
        self.assertEqual(resume(self.ROWS, (True, False), (0, 1, 1), (False,)), ("let", (True, True), None))

    def test_a_row_that_no_answers_lead_to(self):
        rows = (REFUSE, ("ask", (YES,), (HOME,)))
        self.assertEqual(resume(rows, (False, False), (1,), (True,)), ("let", (True, False), None))
        self.assertEqual(resume(rows, (False, False), (1,), (False,)), ("lead", (False, False), "home"))

    def test_the_deepest_ask_row(self):
        rows = nest((OUT,), 3)
        self.assertEqual(resume(rows, (False, False), (0, 0, 0, 0, 0), (True,)), ("let", (False, True), None))
        self.assertEqual(resume(rows, (False, False), (0, 0, 0, 0, 0), (False,)), ("let", (False, False), None))

    def test_no_position_of_an_ask_row(self):
        site = site_with((("ask", (("ask", (), ()), REFUSE), ()), ("if", "in", (("ask", (), ()),), ())), (REFUSE,))
        wrong = [
            (), (1,), (2,), (-1,), (0, 0), (0, 0, 1), (0, 0, 2), (0, 1, 0), (1, 1, 0), (0, 0, 0, 0, 0), [0], 0, "0",
            (False,), (True,), (0, 0, False), (0, False, 0), (1, False, 0), ("0",), ((0,),), ([0],), {0: 0}, deep_value(20),
        ]
        for position in wrong + list(ANY_VALUES):
            with self.subTest(position=position):
                with self.assertRaises(InvalidPosition) as caught:
                    resume_guard(site, "desk", "enter", (True, True), position, [True])
                self.assertTrue(same(caught.exception.position, position))
        for position in ((0,), (0, 0, 0), (1, 0, 0)):
            self.assertEqual(resume_guard(site, "desk", "enter", (True, True), position)[0], "wait")
            with self.assertRaises(InvalidPosition):
                resume_guard(site, "desk", "leave", (True, True), position)


class TestEnds(unittest.TestCase):
    def test_without_ask_rows(self):
        site = site_with((("if", "in", (OUT,), (HOME,)),), (REFUSE,))
        self.assertEqual(all_ends(site, "desk", "enter", (True, False)), [((), "let", (True, True), None)])
        self.assertEqual(all_ends(site, "desk", "enter", (False, False)), [((), "lead", (False, False), "home")])
        self.assertEqual(all_ends(site, "desk", "leave", (True, True)), [((), "refuse", (True, True), None)])
        self.assertEqual(all_ends(site, "home", "leave", (True, True)), [((), "let", (True, True), None)])

    def test_the_order_is_that_of_the_answers(self):
        site = site_with((("ask", (REFUSE,), (("ask", (HOME,), (YES,)),)), OUT))
        ends = [
            ((False, False), "let", (True, True), None),
            ((False, True), "lead", (False, False), "home"),
            ((True,), "refuse", (False, False), None),
        ]
        self.assertEqual(all_ends(site, "desk", "enter", (False, False)), ends)

    def test_eight_ask_rows(self):
        site = site_with((("ask", (), ()),) * 8)
        ends = all_ends(site, "desk", "enter", (True, False))
        self.assertEqual([end[0] for end in ends], list(itertools.product((False, True), repeat=8)))
        self.assertEqual({end[1:] for end in ends}, {("let", (True, False), None)})

    def test_a_list_that_was_returned_may_be_changed(self):
        site = site_with()
        all_ends(site, "desk", "enter", (True, True)).clear()
        self.assertEqual(len(all_ends(site, "desk", "enter", (True, True))), 1)


class TestLets(unittest.TestCase):
    def assert_least(self, rows, flags, answers):
        site = site_with(rows, rows)
        for side in ("enter", "leave"):
            self.assertEqual(letting_answers(site, "desk", side, flags), answers)
            self.assertIs(lets(site, "desk", side, flags), answers is not None)

    def test_no_answers_are_needed(self):
        self.assert_least((), (True, True), ())
        self.assert_least((("if", "in", (), (REFUSE,)),), (True, False), ())

    def test_there_is_none(self):
        self.assert_least((("if", "in", (), (REFUSE,)),), (False, False), None)
        self.assert_least((("ask", (REFUSE,), ()), REFUSE), (False, False), None)
        site = site_with((HOME,))
        self.assertIs(letting_answers(site, "desk", "enter", (True, True)), None)
        self.assertIs(lets(site, "desk", "enter", (True, True)), False)

    def test_false_comes_before_true(self):
        self.assert_least((("ask", (), ()), ("ask", (), ())), (False, False), (False, False))
        self.assert_least((("ask", (), (REFUSE,)), ("ask", (), ())), (False, False), (True, False))

    def test_fewest_answers_come_first(self):
        self.assert_least((("ask", (), (("ask", (), ()),)),), (False, False), (True,))
        self.assert_least((("ask", (("ask", (), ()),), (("ask", (("ask", (), ()),), (REFUSE,)),)),), (True, True), (True, False))


class TestErrors(unittest.TestCase):
    SITE = site_with((("ask", (), ()),))

    def assert_raises(self, kind, value, function, *arguments):
        with self.assertRaises(kind) as caught:
            call(function, *arguments)
        self.assertTrue(same(list(vars(caught.exception).values()), [value]))

    def test_the_order_of_the_errors(self):
        for function in FUNCTIONS:
            with self.subTest(function.__name__):
                self.assert_raises(UnknownPage, "no", function, self.SITE, "no", "no", "no", "no")
                self.assert_raises(InvalidSide, "no", function, self.SITE, "desk", "no", "no", "no")
                self.assert_raises(InvalidFlags, "no", function, self.SITE, "desk", "enter", "no", "no")
        self.assert_raises(InvalidPosition, "no", resume_guard, self.SITE, "desk", "enter", (True, True), "no")

    def test_any_values(self):
        flags = ANY_VALUES + ((True,), (True, True, True), (True, 1), (0, False), (None, True), [True, True], deep_value(20))
        for function in FUNCTIONS:
            for value in ANY_VALUES + (deep_value(20),):
                with self.subTest(function.__name__, value=value):
                    if value != "desk":
                        self.assert_raises(UnknownPage, value, function, self.SITE, value, "enter", (True, True))
                    self.assert_raises(InvalidSide, value, function, self.SITE, "desk", value, (True, True))
            for value in flags:
                with self.subTest(function.__name__, flags=value):
                    self.assert_raises(InvalidFlags, value, function, self.SITE, "desk", "enter", value)

    def test_flags_of_a_site_without_bits(self):
        site = site_with((("ask", (), ()),), bits=())
        for function in FUNCTIONS:
            call(function, site, "desk", "enter", ())
            for value in ([], None, (True,), {}, "", False):
                self.assert_raises(InvalidFlags, value, function, site, "desk", "enter", value)


def slowly_done(todo, flags, answers):
    """Does labelled rows of a site with the bits in and out, with a list of what is still to do."""
    flags = dict(zip(("in", "out"), flags))
    answers = list(answers)
    end = ("let", None)
    while todo:
        (position, row, inside), todo = todo[0], todo[1:]
        if row[0] == "set":
            flags[row[1]] = row[2]
        elif row[0] == "if":
            todo = inside[0 if flags[row[1]] else 1] + todo
        elif row[0] == "ask" and answers:
            todo = inside[0 if answers.pop(0) else 1] + todo
        else:
            end = {"ask": ("wait", position), "refuse": ("refuse", None), "lead": ("lead", row[-1])}[row[0]]
            break
    return end[0], tuple(flags.values()), end[1]


class TestAgainstASecondWay(unittest.TestCase):
    def test_made_up_guards(self):
        source = random.Random(2026)
        for _ in range(300):
            rows = made_rows(source, source.randint(3, 8), WORDS, ("in", "out"), ("home", "desk"))
            flags = (source.choice((False, True)), source.choice((False, True)))
            with self.subTest(rows=rows, flags=flags):
                self.compare(site_with(rows), rows, flags)

    def compare(self, site, rows, flags):
        todo = labelled(rows)
        asks = [path[2] for path in site.row_paths() if site.row_at(path)[0] == "ask"]
        ends = []
        for many in range(len(asks) + 1):
            for answers in itertools.product((False, True), repeat=many):
                expected = slowly_done(todo, flags, answers)
                self.assertEqual(run_guard(site, "desk", "enter", flags, answers), expected)
                for position in asks:
                    expected_here = slowly_done(rest_from(todo, position), flags, answers)
                    self.assertEqual(resume_guard(site, "desk", "enter", flags, position, list(answers)), expected_here)
                if expected[0] != "wait" and (many == 0 or slowly_done(todo, flags, answers[:-1])[0] == "wait"):
                    ends.append((answers,) + expected)
        self.assertEqual(all_ends(site, "desk", "enter", flags), sorted(ends, key=lambda end: end[0]))
        letting = [end[0] for end in ends if end[1] == "let"]
        self.assertEqual(letting_answers(site, "desk", "enter", flags), letting[0] if letting else None)
        self.assertIs(lets(site, "desk", "enter", flags), bool(letting))
