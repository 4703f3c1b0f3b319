"""Rules: the five parts of a rule of the router, and the 48 rules."""

from ledelsewhere.errors import InvalidRule
from ledelsewhere.sites import with_item

PARTS = ("turn", "newer", "lead", "again", "backs")
TURNS = ("first", "last")
NEWERS = ("cancel", "ignore", "race")
LEADS = ("put", "instead")
FLAGS = (False, True)


class Rule:
    """A rule never changes: with_part returns a new one."""

    def __init__(self, turn, newer, *, lead="put", again=False, backs=True):
        for part, value in zip(PARTS, (turn, newer, lead, again, backs)):
            if not may_have(part, value):
                raise InvalidRule(part)
        self.turn = turn
        self.newer = newer
        self.lead = lead
        self.again = again
        self.backs = backs

    def __eq__(self, other):
        return (
            isinstance(other, Rule)
            and self.turn == other.turn
            and self.newer == other.newer
            and self.lead == other.lead
            and self.again == other.again
            and self.backs == other.backs
        )

    def __str__(self):
        return " ".join([
            self.turn,
            self.newer,
            self.lead,
            "again" if self.again else "once",
            "backs" if self.backs else "clicks",
        ])

    def with_part(self, part, value):
        """A new rule in which one part has the value."""
        if part not in PARTS:
            raise InvalidRule(part)
        values = (self.turn, self.newer, self.lead, self.again, self.backs)
        turn, newer, lead, again, backs = with_item(values, PARTS.index(part), value)
        return Rule(turn, newer, lead=lead, again=again, backs=backs)

    @classmethod
    def named(cls, text):
        """The rule that is written with this text, which is any value."""
        for rule in all_rules():
            if str(rule) == text:
                return rule
        raise InvalidRule("text")


def may_have(part, value):
    """True if the part of a rule may have the value, which is any value."""
    if part == "turn":
        return value in TURNS
    if part == "newer":
        return value in NEWERS
    if part == "lead":
        return value in LEADS
    return isinstance(value, bool)


def all_rules():
    """A list of all rules, the first part counting most."""
    return [
        Rule(turn, newer, lead=lead, again=again, backs=backs)
        for turn in TURNS
        for newer in NEWERS
        for lead in LEADS
        for again in FLAGS
        for backs in FLAGS
    ]
