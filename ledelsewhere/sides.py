"""Sides: a site under a rule whose standings are met one after the other, and what the deeds do there."""

from ledelsewhere.errors import TooManyLeads
from ledelsewhere.routing import begin, step_of
from ledelsewhere.standings import deeds, view_of
from ledelsewhere.trails import Trail


class Side:
    """The trail numbers the standings as they are met; from each of them every deed is done once, when it is needed."""

    def __init__(self, site, rule, flips, limit):
        self.site = site
        self.rule = rule
        self.choices = deeds(site, flips=flips)
        self.trail = Trail(limit)
        self.onward = {}

    def start_place(self, flags):
        """The place of the standing behind the start with these flags."""
        return self.trail.meet(begin(self.site, self.rule, flags).after, None)

    def places_behind(self, place):
        """For each of the deeds the place of the standing behind it, None for a deed that is refused; only read."""
        if place not in self.onward:
            self.onward[place] = self.look_around(place)
        return self.onward[place]

    def look_around(self, place):
        """Does all deeds from the standing at the place and returns the places behind them."""
        row = []
        for deed in self.choices:
            made, page = tried(self.site, self.rule, self.trail.found[place], deed)
            self.note(place, deed, made, page)
            row.append(None if made is None else self.trail.meet(made.after, (place, deed)))
        return row

    def note(self, place, deed, made, page):
        """A class below takes the Step of the deed into account, or the page if the deed is refused."""

    def view_at(self, place):
        """The address and the page that is shown in the standing at the place."""
        return view_of(self.trail.found[place])


def tried(site, rule, standing, deed):
    """The Step of the deed and None, or None and the page of the lead at which the deed is refused."""
    try:
        return step_of(site, rule, standing, deed), None
    except TooManyLeads as refusal:
        return None, refusal.page
