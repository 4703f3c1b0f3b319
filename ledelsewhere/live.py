"""Live sites: a site under a rule with its deeds, which can be taken back."""

from ledelsewhere.errors import InvalidFlags, InvalidStanding, NothingToUndo, UnknownBit, UnknownPage
from ledelsewhere.routing import begin, step
from ledelsewhere.standings import is_standing, view_of


class Live:
    """A site under a rule, with the Steps of its deeds since the beginning."""

    def __init__(self, site, rule, flags=None, *, standing=None):
        self.site = site
        self.rule = rule
        self.beginning = first_standing(site, rule, flags, standing)
        self.steps = []

    @property
    def address(self):
        """The address now."""
        return view_of(self.standing())[0]

    @property
    def shown(self):
        """The page that is shown now."""
        return view_of(self.standing())[1]

    @property
    def waiting(self):
        """The stage of the way that is under way, or None at rest."""
        way = self.standing()[4]
        if way is None:
            return None
        return way[1]

    def perform(self, deed):
        """Does the deed, which is any value, and returns its events."""
        made = step(self.site, self.rule, self.standing(), deed)
        self.steps.append(made)
        return made.events

    def click(self, page):
        """Clicks the page, which is any value, and returns the events."""
        if page not in self.site.page_names():
            raise UnknownPage(page)
        return self.perform(("click", page))

    def back(self):
        """Goes back and returns the events."""
        return self.perform(("back",))

    def forward(self):
        """Goes forward and returns the events."""
        return self.perform(("forward",))

    def answer(self, flag):
        """Answers the guard that waits and returns the events."""
        return self.perform(("answer", flag))

    def load(self, flag):
        """Lets the load succeed or fail and returns the events."""
        return self.perform(("load", flag))

    def late(self, k, flag):
        """Lets the late load at the index succeed or fail and returns the events."""
        return self.perform(("late", k, flag))

    def __getitem__(self, at):
        flags = self.standing()[0]
        for bit, flag in zip(self.site.bits, flags):
            if bit == at:
                return flag
        raise UnknownBit(at)

    def __iter__(self):
        raise TypeError("a live site is not iterated over")

    def __setitem__(self, at, worth):
        if at not in self.site.bits:
            raise UnknownBit(at)
        if not isinstance(worth, bool):
            raise InvalidFlags(worth)
        if self[at] != worth:
            self.perform(("flip", at))

    def __contains__(self, x):
        return x in self.site.bits

    def __len__(self):
        return len(self.steps)

    def __iadd__(self, other):
        # All Steps are made before the first one is added, so a deed that raises leaves nothing behind.
        self.steps = self.steps + self.steps_ahead(other)
        return self

    def trial(self, deeds):
        """Does the deeds and takes them back; returns a list of the pairs (address, shown) after each of them."""
        return [view_of(made.after) for made in self.steps_ahead(deeds)]

    def steps_ahead(self, deeds):
        """A list of the Steps that the deeds would make, one after the other; the live site stays as it is."""
        made = []
        now = self.standing()
        for deed in deeds:
            made.append(step(self.site, self.rule, now, deed))
            now = made[-1].after
        return made

    def standing(self):
        """The standing now."""
        if len(self.steps) == 0:
            return self.beginning
        return self.steps[-1].after

    def last_events(self):
        """The events of the last deed, () if there are no deeds."""
        if len(self.steps) == 0:
            return ()
        return self.steps[-1].events

    def deeds_done(self):
        """A list of the deeds."""
        return [made.deed for made in self.steps]

    def seen(self):
        """A list of the pairs (address, shown) at the beginning and after each deed."""
        return [view_of(self.beginning)] + [view_of(made.after) for made in self.steps]

    def undo(self):
        """Takes the last deed back and returns it."""
        if len(self.steps) == 0:
            raise NothingToUndo()
        return self.steps.pop().deed

    def fork(self):
        """A new live site with the same beginning and the same deeds."""
        twin = Live(self.site, self.rule, standing=self.beginning)
        twin.steps = list(self.steps)
        return twin


def first_standing(site, rule, flags, standing):
    """The standing in which a live site begins; the flags and the standing are any values."""
    if standing is not None:
        if not is_standing(site, rule, standing):
            raise InvalidStanding()
        if flags is not None:
            raise InvalidFlags(flags)
        return standing
    if flags is None:
        return begin(site, rule, tuple([False for bit in site.bits])).after
    return begin(site, rule, flags).after
