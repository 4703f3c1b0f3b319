"""Surveys: all standings that runs of a site under a rule lead to, and what the deeds do there."""

from ledelsewhere.judge import Lettings, faults_with
from ledelsewhere.sides import Side
from ledelsewhere.standings import all_flags


class Survey(Side):
    """All standings are met when it is created, so the trail has them in the order of their least runs."""

    def __init__(self, site, rule, flips, limit):
        Side.__init__(self, site, rule, flips, limit)
        self.lettings = Lettings(site)
        # For each fault the place and the deed from which it comes first.
        self.first_faults = {}
        # The greatest number of leads of one deed, and the place and the deed from which they come first.
        self.most = 0
        self.first_most = None
        self.paths_done = {}
        for flags in all_flags(site):
            self.start_place(flags)
        while len(self.onward) < len(self.trail.found):
            self.places_behind(len(self.onward))

    def note(self, place, deed, made, page):
        """Takes the faults, the leads and the rows of the deed into account."""
        if made is None:
            self.first_faults.setdefault(("round", page), (place, deed))
            return
        for fault in faults_with(self.lettings, self.rule, made):
            self.first_faults.setdefault(fault, (place, deed))
        leads = len([event for event in made.events if event[0] == "led"])
        if leads > self.most:
            self.most = leads
            self.first_most = (place, deed)
        for path in made.done:
            self.paths_done[path] = True

    def run_to(self, place):
        """The least run that leads to the standing at the place."""
        start, taken = self.trail.way_to(place)
        return start[0], taken

    def run_with(self, origin):
        """The least run that goes to the place of the origin and does its deed there."""
        place, deed = origin
        flags, taken = self.run_to(place)
        return flags, taken + (deed,)
