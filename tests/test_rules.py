"""Point 11: rules."""

import unittest

from ledelsewhere.errors import InvalidRule
from ledelsewhere.rules import PARTS, Rule, all_rules
from tests.helpers import ANY_VALUES, deep_value, same

VALUES = {
    "turn": ("first", "last"),
    "newer": ("cancel", "ignore", "race"),
    "lead": ("put", "instead"),
    "again": (False, True),
    "backs": (False, True),
}
# The words of all parts are among them, so that each of them is tried at every part.
TRIED = ANY_VALUES + tuple(value for values in VALUES.values() for value in values) + (
    "once", "clicks", "First", "last ", "cancelrace", ("first",), [True], deep_value(20), "True", 2,
)


def parts_of(rule):
    return (rule.turn, rule.newer, rule.lead, rule.again, rule.backs)


def rule_from(values):
    turn, newer, lead, again, backs = values
    return Rule(turn, newer, lead=lead, again=again, backs=backs)


def is_allowed(part, value):
    return any(same(value, known) for known in VALUES[part])


class TestParts(unittest.TestCase):
    def assert_wrong(self, part, function, *arguments, **more):
        with self.assertRaises(InvalidRule) as caught:
            function(*arguments, **more)
        self.assertTrue(same(caught.exception.part, part))

    def test_the_names_of_the_parts(self):
        self.assertEqual(PARTS, ("turn", "newer", "lead", "again", "backs"))

    def test_defaults(self):
        self.assertTrue(same(parts_of(Rule("first", "race")), ("first", "race", "put", False, True)))
        self.assertTrue(same(parts_of(Rule("last", "ignore", again=True)), ("last", "ignore", "put", True, True)))
        self.assertTrue(same(parts_of(Rule("last", "cancel", lead="instead", backs=False)), ("last", "cancel", "instead", False, False)))

    def test_the_last_three_are_passed_by_keyword(self):
        with self.assertRaises(TypeError):
            Rule("first", "race", "put")

    def test_each_value_at_each_part(self):
        good = ("first", "cancel", "instead", True, False)
        for at, part in enumerate(PARTS):
            for value in TRIED:
                values = good[:at] + (value,) + good[at + 1:]
                with self.subTest(part=part, value=value):
                    if is_allowed(part, value):
                        self.assertTrue(same(parts_of(rule_from(values)), values))
                    else:
                        self.assert_wrong(part, rule_from, values)

    def test_the_first_wrong_part_is_named(self):
        self.assert_wrong("turn", Rule, 0, 0, lead=0, again=0, backs=0)
        self.assert_wrong("newer", Rule, "first", 0, lead=0, again=0, backs=0)
        self.assert_wrong("lead", Rule, "first", "race", lead=0, again=0, backs=0)
        self.assert_wrong("again", Rule, "first", "race", again=0, backs=0)
        self.assert_wrong("backs", Rule, "first", "race", backs=1)
        self.assert_wrong("turn", Rule, "cancel", "first")


class TestEqual(unittest.TestCase):
    def test_equal_exactly_if_all_parts_are(self):
        rules = all_rules()
        for at, first in enumerate(rules):
            for beside, second in enumerate(all_rules()):
                self.assertIs(first == second, at == beside)
                self.assertIs(first != second, at != beside)


class TestWithPart(unittest.TestCase):
    def test_each_part_and_value(self):
        for rule in all_rules():
            before = parts_of(rule)
            for at, part in enumerate(PARTS):
                for value in VALUES[part]:
                    changed = rule.with_part(part, value)
                    self.assertTrue(same(parts_of(changed), before[:at] + (value,) + before[at + 1:]))
                    self.assertTrue(same(parts_of(rule), before))
                    self.assertIsNot(changed, rule)

    def test_wrong_values(self):
        rule = Rule("first", "cancel")
        for part in PARTS:
            for value in TRIED:
                if not is_allowed(part, value):
                    with self.subTest(part=part, value=value), self.assertRaises(InvalidRule) as caught:
                        rule.with_part(part, value)
                    self.assertEqual(caught.exception.part, part)
        self.assertEqual(rule, Rule("first", "cancel"))

    def test_wrong_parts(self):
        rule = Rule("first", "cancel")
        for part in TRIED + ("text", "Turn", "keep", ["turn"], ("turn",)):
            for value in ("first", True, None):
                with self.subTest(part=part, value=value), self.assertRaises(InvalidRule) as caught:
                    rule.with_part(part, value)
                self.assertTrue(same(caught.exception.part, part))


class TestWritten(unittest.TestCase):
    def test_the_five_words(self):
        self.assertEqual(str(Rule("last", "cancel")), "last cancel put once backs")
        self.assertEqual(str(Rule("first", "ignore", lead="instead", again=True)), "first ignore instead again backs")
        self.assertEqual(str(Rule("last", "race", backs=False)), "last race put once clicks")

    def test_there_and_back(self):
        texts = [str(rule) for rule in all_rules()]
        self.assertEqual(len(set(texts)), 48)
        for rule, text in zip(all_rules(), texts):
            again, backs = ("once", "again")[rule.again], ("clicks", "backs")[rule.backs]
            self.assertEqual(text, f"{rule.turn} {rule.newer} {rule.lead} {again} {backs}")
            named = Rule.named(text)
            self.assertIsInstance(named, Rule)
            self.assertEqual(named, rule)

    def test_no_rule_is_written_so(self):
        good = "last cancel put once backs"
        wrong = [
            "last cancel put once", "last cancel put once backs ", " " + good, good + "\n", good.replace(" ", "  ", 1),
            good.replace(" ", "\t", 1), good.upper(), "cancel last put once backs", "last cancel put once True",
            "last cancel put False True", good + " backs", tuple(good.split()), good.split(), [good], (good,), {good: good},
            Rule("last", "cancel").turn, deep_value(20),
        ]
        for text in wrong + list(ANY_VALUES):
            with self.subTest(text=text), self.assertRaises(InvalidRule) as caught:
                Rule.named(text)
            self.assertEqual(caught.exception.part, "text")


class TestAllRules(unittest.TestCase):
    def test_the_order(self):
        expected = [
            (turn, newer, lead, again, backs)
            for turn in ("first", "last")
            for newer in ("cancel", "ignore", "race")
            for lead in ("put", "instead")
            for again in (False, True)
            for backs in (False, True)
        ]
        self.assertTrue(same([parts_of(rule) for rule in all_rules()], expected))
        self.assertEqual(len(expected), 48)

    def test_a_new_list_each_time(self):
        first = all_rules()
        first.clear()
        self.assertEqual(len(all_rules()), 48)
