"""Desks: a site that is edited, some rules, and the verdicts on the kinds of faults that are watched."""

from ledelsewhere.books import Book
from ledelsewhere.checks import MOST_STANDINGS, check_bound, check_kind, check_rules
from ledelsewhere.errors import LimitExceeded, NothingToRedo, NothingToUndo
from ledelsewhere.judge import KINDS


class Desk:
    """A site and its edits, which can be undone and done again."""

    def __init__(self, site, rules, *, flips=True, limit=2000):
        check_bound(limit, MOST_STANDINGS)
        check_rules(rules)
        self.current = site
        self.watched = ()
        self.bound = limit
        self.flips = flips
        self.rules = tuple(rules)
        # The sites ahead of each edit that can be undone, and behind each edit that can be done again.
        self.earlier = []
        self.later = []

    def set_bound(self, value):
        """Sets the bound to the value, which is any value."""
        check_bound(value, MOST_STANDINGS)
        self.bound = value

    def __ior__(self, other):
        check_kind(other)
        self.watched = tuple([kind for kind in KINDS if kind in self.watched or kind == other])
        return self

    def __isub__(self, other):
        check_kind(other)
        self.watched = tuple([kind for kind in self.watched if kind != other])
        return self

    def __getitem__(self, at):
        return self.current.row_at(at)

    def __iter__(self):
        raise TypeError("a desk is not iterated over")

    def __setitem__(self, at, worth):
        self.put_site(self.current.with_row(at, worth))

    def put_guard(self, page, side, rows):
        """Replaces the rows of a guard, which is an edit; the arguments are any values."""
        self.put_site(self.current.with_guard(page, side, rows))

    def put_site(self, site):
        """Replaces the site, which is an edit."""
        self.earlier.append(self.current)
        self.later = []
        self.current = site

    def __len__(self):
        return len(self.earlier)

    def undo(self):
        """Takes back the last edit."""
        if len(self.earlier) == 0:
            raise NothingToUndo()
        self.later.append(self.current)
        self.current = self.earlier.pop()

    def redo(self):
        """Does the edit again that was undone last."""
        if len(self.later) == 0:
            raise NothingToRedo()
        self.earlier.append(self.current)
        self.current = self.later.pop()

    def verdicts(self):
        """A list of the Verdicts on the watched kinds, one for each rule, None where the bound is exceeded."""
        return [self.verdict_on(self.current, rule) for rule in self.rules]

    def attempt(self, edits):
        """What verdicts would return behind the edits, a list of tuples (path, row); the desk stays as it is."""
        site = self.current
        for path, row in edits:
            site = site.with_row(path, row)
        return [self.verdict_on(site, rule) for rule in self.rules]

    def verdict_on(self, site, rule):
        """The Verdict on the watched kinds for the site under the rule, or None if the bound is exceeded."""
        try:
            book = Book(site, rule, flips=self.flips, limit=self.bound)
        except LimitExceeded:
            return None
        return book.verdict().only(self.watched)
