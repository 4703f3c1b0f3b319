"""Checks of arguments that several modules share."""

from ledelsewhere.errors import InvalidBound, InvalidKind, InvalidRules
from ledelsewhere.judge import KINDS
from ledelsewhere.sites import is_integer

MOST_STANDINGS = 10000
MOST_RULES = 6


def check_bound(value, greatest):
    """Raises InvalidBound if the value, which is any value, is not an integer from 1 to the greatest."""
    if not is_integer(value) or not 1 <= value <= greatest:
        raise InvalidBound(value)


def check_kind(kind):
    """Raises InvalidKind if there is no fault of this kind."""
    if kind not in KINDS:
        raise InvalidKind(kind)


def check_rules(rules):
    """Raises InvalidRules if there are too few rules or too many."""
    if not 1 <= len(rules) <= MOST_RULES:
        raise InvalidRules()
