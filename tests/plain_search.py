"""Plain searches, written in another way than the program: in rounds, least runs are improved until none gets less."""

from ledelsewhere.errors import TooManyLeads
from ledelsewhere.judge import KINDS, faults
from ledelsewhere.routing import begin, step
from ledelsewhere.standings import all_flags, deeds
from tests.helpers import made_site


def in_view(standing):
    """The address and the shown page."""
    return standing[2][standing[3]], standing[1]


class Plain:
    """All standings of a site under a rule with their least keys, which are ordered as runs are.

    A key is (number of deeds, index of the flags, indexes of the deeds).
    """

    def __init__(self, site, rule, flips, most=10000):
        self.site = site
        self.rule = rule
        self.flips = flips
        self.flags = all_flags(site)
        self.moves = deeds(site, flips=flips)
        self.steps = {}
        self.keys = {}
        for at, flags in enumerate(self.flags):
            self.keys[begin(site, rule, flags).after] = (0, at, ())
        while self.improve() and len(self.keys) <= most:
            pass
        self.too_many = len(self.keys) > most

    def improve(self):
        """One round over all standings that are known; True if a key got less."""
        better = False
        for key, standing, made in list(self.tries()):
            if not isinstance(made, str) and (made.after not in self.keys or key < self.keys[made.after]):
                self.keys[made.after] = key
                better = True
        return better

    def steps_from(self, standing):
        """For each deed its Step, or the page of the refusal."""
        if standing not in self.steps:
            self.steps[standing] = [self.try_step(standing, deed) for deed in self.moves]
        return self.steps[standing]

    def try_step(self, standing, deed):
        try:
            return step(self.site, self.rule, standing, deed)
        except TooManyLeads as refusal:
            return refusal.page

    def run_of(self, key):
        """The run of a key."""
        return self.flags[key[1]], tuple(self.moves[number] for number in key[2])

    def standings(self):
        return sorted(self.keys, key=self.keys.get)

    def tries(self):
        """Yields (key of the run with the deed, standing, Step or page)."""
        for standing, (many, at, taken) in self.keys.items():
            for number, made in enumerate(self.steps_from(standing)):
                yield (many + 1, at, taken + (number,)), standing, made

    def faults(self):
        """A dict of the least run of each fault, in the order in which faults are listed."""
        least = {}
        for key, standing, made in self.tries():
            found = [("round", made)] if isinstance(made, str) else faults(self.site, self.rule, made)
            for fault in found:
                least[fault] = min(key, least.get(fault, key))
        names = self.site.page_names()
        order = sorted(least, key=lambda fault: (KINDS.index(fault[0]), names.index(fault[1])))
        return {fault: self.run_of(least[fault]) for fault in order}

    def kinds(self):
        return {kind for kind, page in self.faults()}


def small_plains(source, rule, flips, many, most=90, **parts):
    """Plain searches of so many drawn sites with few standings, but not very few."""
    found = []
    while len(found) < many:
        plain = Plain(made_site(source, **parts), rule, flips, most)
        if not plain.too_many and len(plain.keys) > 8:
            found.append(plain)
    return found


class PlainPairs:
    """The tuples of two standings to which runs without a difference lead, and the least run with a difference."""

    def __init__(self, first, second):
        """first and second are Plain, whatever they have found themselves."""
        self.keys = {}
        self.difference = None
        self.first = first
        self.second = second
        for at, flags in enumerate(first.flags):
            pair = (begin(first.site, first.rule, flags).after, begin(second.site, second.rule, flags).after)
            self.meet(pair, (0, at, ()))
        while self.improve():
            pass

    def improve(self):
        """One round over all tuples that are known; True if a key got less."""
        better = False
        for pair, (many, at, taken) in list(self.keys.items()):
            both = zip(self.first.steps_from(pair[0]), self.second.steps_from(pair[1]))
            for number, (one, other) in enumerate(both):
                key = (many + 1, at, taken + (number,))
                if isinstance(one, str) != isinstance(other, str):
                    better = self.differ(key) or better
                elif not isinstance(one, str):
                    better = self.meet((one.after, other.after), key) or better
        return better

    def meet(self, pair, key):
        if in_view(pair[0]) != in_view(pair[1]):
            return self.differ(key)
        if pair in self.keys and self.keys[pair] <= key:
            return False
        self.keys[pair] = key
        return True

    def differ(self, key):
        if self.difference is not None and self.difference <= key:
            return False
        self.difference = key
        return True

    def least_run(self):
        return None if self.difference is None else self.first.run_of(self.difference)

    def kept(self):
        """The tuples that are found ahead of the least difference, in the order of their least runs."""
        ahead = [pair for pair, key in self.keys.items() if self.difference is None or key < self.difference]
        return sorted(ahead, key=self.keys.get)
