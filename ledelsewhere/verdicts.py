"""Verdicts: sets of faults without a site."""

from ledelsewhere.checks import check_kind
from ledelsewhere.judge import KINDS


class Verdict:
    """A verdict never changes: the operators return new ones."""

    def __init__(self, pairs):
        for kind, page in pairs:
            check_kind(kind)
        self.held = tuple([(kind, page) for kind in KINDS for page in pages_with(kind, pairs)])

    def __eq__(self, other):
        return isinstance(other, Verdict) and self.held == other.held

    def __len__(self):
        return len(self.held)

    def __bool__(self):
        return bool(self.held)

    def __contains__(self, x):
        return x in self.held

    def __or__(self, other):
        return Verdict(self.held + other.held)

    def __and__(self, other):
        return Verdict([pair for pair in self.held if pair in other.held])

    def __sub__(self, other):
        return Verdict([pair for pair in self.held if pair not in other.held])

    def __xor__(self, other):
        return (self - other) | (other - self)

    def pairs(self):
        """A list of the pairs, by the order of KINDS, then by the page."""
        return list(self.held)

    def kinds(self):
        """A list of the kinds of the pairs, in the order of KINDS."""
        return [kind for kind in KINDS if len(pages_with(kind, self.held)) > 0]

    def only(self, kinds):
        """A new verdict with the pairs of these kinds."""
        return Verdict([pair for pair in self.held if pair[0] in kinds])


def pages_with(kind, pairs):
    """The pages of the pairs of this kind, ascending and without duplicates, a list."""
    return sorted({page for known, page in pairs if known == kind})
