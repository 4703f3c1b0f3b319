"""Point 27: eight facts, for each of the 48 rules, on drawn sites after every deed, and over books."""

import random
import unittest

from ledelsewhere.alike import alike
from ledelsewhere.books import Book, shows_free
from ledelsewhere.errors import LimitExceeded, TooManyLeads
from ledelsewhere.judge import KINDS, faults
from ledelsewhere.routing import begin, step
from ledelsewhere.rules import all_rules
from ledelsewhere.sites import Site
from ledelsewhere.standings import all_flags, deeds
from tests.helpers import ALL_WORDS, made_deed, made_site

QUIET = ("if", "ask", "refuse", "lead")
NO_ASK = ("if", "set", "refuse", "lead")
NO_LEAD = ("if", "ask", "set", "refuse")
QUIET_NO_ASK = ("if", "refuse", "lead")
SITES = 6
DEEDS = 40
# On the chosen site, a way back to a page that leads elsewhere by now.
CHOSEN_DEEDS = (
    ("click", "desk"), ("load", True), ("click", "home"), ("flip", "in"), ("back",), ("load", True), ("load", True),
)


def chosen_site(words, loading):
    """A site without ask rows and set rows on which one bit makes faults of every kind easy."""
    elsewhere = ("lead", "cup") if "lead" in words else ("refuse",)
    pages = (
        ("home", ((), (), False)),
        ("desk", ((("if", "in", (elsewhere,), ()),), (), loading)),
        ("cup", ((("if", "in", (), (("refuse",),)),), (("if", "in", (("refuse",),), ()),), loading)),
    )
    return Site(("in",), pages, "home", keep=3)


def has(site, word, sides=("enter", "leave")):
    """True if a guard of these sides has such a row."""
    return any(site.row_at(path)[0] == word for path in site.row_paths() if path[1] in sides)


def has_loads(site):
    return any(site.loads(page) for page in site.page_names())


def told(site, rule, standing, deed):
    """The deed from the standing as (standing after, events, faults)."""
    try:
        made = step(site, rule, standing, deed)
    except TooManyLeads as refused:
        return standing, (), [("round", refused.page)]
    return made.after, made.events, faults(site, rule, made)


def in_view(standing):
    """The shown page and the address."""
    return standing[1], standing[2][standing[3]]


def free_of(site, rule):
    """The kinds of faults that the facts rule out for this site under this rule."""
    quiet = not has(site, "set")
    free = set()
    if rule.turn == "last" and rule.newer != "race":
        free.add("apart")
    if quiet and not has(site, "ask", ("enter",)) and rule.backs and rule.again and rule.newer != "race":
        free.add("barred")
    if rule.backs:
        free.add("unasked")
    if not has(site, "lead"):
        free.update(("round", "doubled", "written"))
    if rule.newer != "race":
        free.add("late")
    if quiet and not has(site, "ask") and not has_loads(site) and rule.backs:
        free.update(("apart", "barred", "passed", "late", "unasked"))
    return free


class Drawn:
    """A rule, a site and flags, with drawn deeds behind some first ones."""

    def __init__(self, source, rule, site, flags, first=()):
        self.source = source
        self.rule = rule
        self.site = site
        self.flags = flags
        self.first = first

    def deeds_done(self, rules):
        """Does the deeds under each of the rules; yields (deed, standings before, what told gives for each)."""
        now = [begin(self.site, rule, self.flags).after for rule in rules]
        known = deeds(self.site)
        for at in range(DEEDS):
            deed = self.first[at] if at < len(self.first) else made_deed(self.source, now[0], known)
            all_told = [told(self.site, rule, standing, deed) for rule, standing in zip(rules, now)]
            yield deed, now, all_told
            now = [after for after, events, found in all_told]

    def walk(self):
        """Yields (deed, after, events, faults) under the rule."""
        for deed, now, all_told in self.deeds_done([self.rule]):
            yield (deed,) + all_told[0]

    def beside(self, **values):
        """Yields what the rule and a rule that differs from it in one of the parts tell of the same deed."""
        rules = [self.rule] + [self.rule.with_part(part, value) for part, others in values.items() for value in others]
        for deed, now, all_told in self.deeds_done(rules):
            for other in all_told[1:]:
                yield all_told[0], other


def draw(seed, words=ALL_WORDS, enter_words=None, loading=True):
    """Yields some Drawn for each rule: sites with these words, and the chosen one."""
    source = random.Random(seed)
    for rule in all_rules():
        for _ in range(SITES):
            site = made_site(source, words, enter_words, loading)
            yield Drawn(source, rule, site, source.choice(all_flags(site)))
        yield Drawn(source, rule, chosen_site(words, loading), (False,), CHOSEN_DEEDS)


class TestFaultsThatAreRuledOut(unittest.TestCase):
    """Facts 1, 2, 3, 5, 6 and 8."""

    def assert_free(self, seed, may_occur, **parts):
        seen = set()
        for drawn in draw(seed, **parts):
            free = free_of(drawn.site, drawn.rule)
            for deed, after, events, found in drawn.walk():
                kinds = {kind for kind, page in found}
                self.assertEqual(kinds & free, set(), (drawn.site.pages, str(drawn.rule), deed, after))
                seen.update(kinds)
        # Each other kind of fault does occur, or the sites above would not say much.
        self.assertEqual(seen, set(may_occur))

    def test_any_sites(self):
        self.assert_free(1, KINDS)

    def test_quiet_sites(self):
        self.assert_free(2, KINDS, words=QUIET)

    def test_quiet_sites_whose_enter_guards_do_not_ask(self):
        self.assert_free(3, KINDS, words=QUIET, enter_words=QUIET_NO_ASK)

    def test_quiet_sites_that_do_not_ask_and_do_not_load(self):
        self.assert_free(4, set(KINDS) - {"apart", "late"}, words=QUIET_NO_ASK, loading=False)

    def test_sites_that_do_not_lead(self):
        self.assert_free(5, set(KINDS) - {"round", "doubled", "written"}, words=NO_LEAD)


class TestLatePages(unittest.TestCase):
    """Fact 6."""

    def test_late_stays_empty(self):
        dropped = set()
        for drawn in draw(6):
            for deed, after, events, found in drawn.walk():
                if drawn.rule.newer != "race":
                    self.assertEqual(after[5], ())
                if any(event[0] == "dropped" for event in events):
                    dropped.add(drawn.rule.newer)
        self.assertEqual(dropped, {"cancel", "race"})


class TestEntries(unittest.TestCase):
    """Fact 7."""

    def test_every_entry_was_shown(self):
        others = set()
        for drawn in draw(7):
            shown = {drawn.site.start}
            for deed, after, events, found in drawn.walk():
                shown.update(event[1] for event in events if event[0] == "shown" or event[0] == "late" and event[2])
                if set(after[2]) - shown:
                    others.add((drawn.rule.turn, drawn.rule.lead))
        self.assertEqual(others, {("first", "put"), ("first", "instead"), ("last", "put")})


class TestPartsThatDoNotMatter(unittest.TestCase):
    """Facts 4 and 5."""

    def test_turn_and_again_without_loads(self):
        for drawn in draw(8, loading=False):
            for first, other in drawn.beside(turn=("first", "last"), again=(False, True)):
                self.assertEqual(in_view(first[0]), in_view(other[0]))

    def test_cancel_and_race_without_loads(self):
        for drawn in draw(9, loading=False):
            if drawn.rule.newer != "ignore":
                for first, other in drawn.beside(newer=("cancel", "race")):
                    self.assertEqual(first, other)

    def test_newer_without_loads_and_ask_rows(self):
        for drawn in draw(10, words=NO_ASK, loading=False):
            for first, other in drawn.beside(newer=("cancel", "ignore", "race")):
                self.assertEqual(first, other)

    def test_put_and_instead_without_lead_rows(self):
        for drawn in draw(11, words=NO_LEAD):
            for first, other in drawn.beside(lead=("put", "instead")):
                self.assertEqual(first, other)


class TestFactsOverBooks(unittest.TestCase):
    """All facts again, for every deed from every standing of a book."""

    def books(self, seed, **parts):
        """Yields the books of some drawn sites, and of the chosen one, under each rule."""
        source = random.Random(seed)
        for rule in all_rules():
            sites = [made_site(source, **parts), made_site(source, **parts)]
            for site in sites + [chosen_site(parts.get("words", ALL_WORDS), parts.get("loading", True))]:
                try:
                    yield Book(site, rule, flips=source.choice((True, False)), limit=200)
                except LimitExceeded:
                    continue

    def assert_free(self, seed, **parts):
        for book in self.books(seed, **parts):
            free = free_of(book.site, book.rule)
            self.assertEqual([pair for pair in book.faults() if pair[0] in free], [], (book.site.pages, str(book.rule)))
            for kind in sorted(free)[:2]:
                self.assertIs(book.is_free(kind), True)
                self.assertIs(shows_free(book.site, book.rule, book.standings(), kind, flips=book.flips), True)

    def test_faults_that_are_ruled_out(self):
        self.assert_free(12)
        self.assert_free(13, words=QUIET)
        self.assert_free(14, words=QUIET, enter_words=QUIET_NO_ASK)
        self.assert_free(15, words=QUIET_NO_ASK, loading=False)
        self.assert_free(16, words=NO_LEAD)

    def test_late_stays_empty(self):
        for book in self.books(17):
            if book.rule.newer != "race":
                self.assertTrue(all(standing[5] == () for standing in book.standings()))

    def test_entries_were_shown(self):
        # Along the least run of each standing every entry was the start page or was shown behind some deed.
        for book in self.books(18):
            if book.rule.turn == "last" and book.rule.lead == "instead":
                for standing in book.standings():
                    flags, taken = book.least_run(standing)
                    now = begin(book.site, book.rule, flags).after
                    shown = {now[1]}
                    for deed in taken:
                        events, now = step(book.site, book.rule, now, deed).events, book.follow(now, deed)
                        shown.update(event[1] for event in events if event[0] == "shown" or event[0] == "late" and event[2])
                    self.assertLessEqual(set(standing[2]), shown)

    def assert_alike(self, seed, others, **parts):
        for book in self.books(seed, **parts):
            for other in others(book.rule):
                same = alike((book.site, book.rule), (book.site, other), flips=book.flips, limit=20000)
                self.assertIs(same, True, (book.site.pages, str(book.rule), str(other)))

    def test_parts_that_do_not_matter(self):
        def other_turn_and_again(rule):
            return [rule.with_part("turn", "first" if rule.turn == "last" else "last"), rule.with_part("again", not rule.again)]

        def cancel_and_race(rule):
            return [] if rule.newer == "ignore" else [rule.with_part("newer", newer) for newer in ("cancel", "race")]

        def each_newer(rule):
            return [rule.with_part("newer", newer) for newer in ("cancel", "ignore", "race")]

        def each_lead(rule):
            return [rule.with_part("lead", lead) for lead in ("put", "instead")]

        self.assert_alike(19, other_turn_and_again, loading=False)
        self.assert_alike(20, cancel_and_race, loading=False)
        self.assert_alike(21, each_newer, words=NO_ASK, loading=False)
        self.assert_alike(22, each_lead, words=NO_LEAD)
