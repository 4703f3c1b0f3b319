"""Books: all standings of a site under a rule, with their least runs and their faults; and closed lists."""

from ledelsewhere.checks import MOST_STANDINGS, check_bound, check_kind
from ledelsewhere.errors import InvalidDeed, NoFault, NoStanding
from ledelsewhere.judge import KINDS, Lettings, faults_with
from ledelsewhere.routing import begin
from ledelsewhere.sides import tried
from ledelsewhere.standings import all_flags, deeds, is_deed, is_standing
from ledelsewhere.surveys import Survey
from ledelsewhere.trails import Trail
from ledelsewhere.verdicts import Verdict


class Book:
    """A book never changes: all that it tells is worked out when it is created."""

    def __init__(self, site, rule, *, flips=True, limit=2000):
        check_bound(limit, MOST_STANDINGS)
        self.site = site
        self.rule = rule
        self.flips = flips
        self.limit = limit
        self.survey = Survey(site, rule, flips, limit)

    def __len__(self):
        return len(self.survey.trail.found)

    def __contains__(self, x):
        # Only a standing is looked up: True and 1 are equal in Python, and lists can't be looked up at all.
        return is_standing(self.site, self.rule, x) and x in self.survey.trail.places

    def moves(self):
        """A list of the deeds of the book, in their order."""
        return list(self.survey.choices)

    def standings(self):
        """A list of the standings, in the order of their least runs."""
        return list(self.survey.trail.found)

    def place_of(self, standing):
        """The index of the standing, which is any value, in the list of the standings."""
        if standing not in self:
            raise NoStanding()
        return self.survey.trail.places[standing]

    def least_run(self, standing):
        """The least run that leads to the standing, which is any value."""
        return self.survey.run_to(self.place_of(standing))

    def follow(self, standing, deed):
        """The standing behind the deed, or None if the deed is refused; both are any values."""
        place = self.place_of(standing)
        if not is_deed(self.site, deed) or deed not in self.survey.choices:
            raise InvalidDeed(deed)
        behind = self.survey.places_behind(place)[self.survey.choices.index(deed)]
        if behind is None:
            return None
        return self.survey.trail.found[behind]

    def faults(self):
        """A list of the faults, the kinds in their order, then the pages in that of the site."""
        names = self.site.page_names()
        return [(kind, page) for kind in KINDS for page in names if (kind, page) in self.survey.first_faults]

    def least_fault(self, kind, page):
        """The least run of the fault."""
        if (kind, page) not in self.survey.first_faults:
            raise NoFault(kind, page)
        return self.survey.run_with(self.survey.first_faults[(kind, page)])

    def is_free(self, kind):
        """True if the book has no fault of this kind."""
        check_kind(kind)
        return all([known != kind for known, page in self.faults()])

    def verdict(self):
        """The Verdict of the faults."""
        return Verdict(self.faults())

    def deeds_between(self, first, second):
        """The least tuple of deeds that lead from the first standing to the second one, or None; both are any value."""
        begun = self.place_of(first)
        wanted = self.place_of(second)
        trail = Trail(None)
        trail.meet(begun, None)
        at = 0
        while at < len(trail.found) and wanted not in trail.places:
            row = self.survey.places_behind(trail.found[at])
            for deed, behind in zip(self.survey.choices, row):
                if behind is not None:
                    trail.meet(behind, (at, deed))
            at = at + 1
        if wanted not in trail.places:
            return None
        return trail.way_to(trail.places[wanted])[1]


def is_closed(site, rule, value, *, flips=True):
    """True if the value, which is any value, is a closed list."""
    return is_closed_without(site, rule, value, None, flips)


def shows_free(site, rule, value, kind, *, flips=True):
    """True if the value, which is any value, is a closed list that shows that there is no fault of the kind."""
    check_kind(kind)
    return is_closed_without(site, rule, value, kind, flips)


def is_closed_without(site, rule, value, kind, flips):
    """True if the value is a closed list from whose items no deed has a fault of the kind, which may be None."""
    if not isinstance(value, list) or not all([is_standing(site, rule, item) for item in value]):
        return False
    held = {item: True for item in value}
    if not all([begin(site, rule, flags).after in held for flags in all_flags(site)]):
        return False
    choices = deeds(site, flips=flips)
    lettings = Lettings(site)
    for item in held:
        for deed in choices:
            made, page = tried(site, rule, item, deed)
            if made is not None and made.after not in held:
                return False
            if kind is not None and has_fault(lettings, rule, made, kind):
                return False
    return True


def has_fault(lettings, rule, made, kind):
    """True if the deed with this Step, which is None if the deed is refused, has a fault of the kind."""
    if made is None:
        return kind == "round"
    return any([known == kind for known, page in faults_with(lettings, rule, made)])
