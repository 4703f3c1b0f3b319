"""Trails: what a search has found, in order, and the deeds on which it found each thing first."""

from ledelsewhere.errors import LimitExceeded


class Trail:
    """Things that a search finds, numbered in the order in which it finds them; a limit of None bounds nothing."""

    def __init__(self, limit):
        self.limit = limit
        self.found = []
        self.places = {}
        self.origins = []

    def meet(self, thing, origin):
        """The place of the thing, which is added if it is new.

        The origin is None where the search begins, otherwise the place of the thing before and the deed done there.
        """
        if thing not in self.places:
            if self.limit is not None and len(self.found) >= self.limit:
                raise LimitExceeded(self.limit)
            self.places[thing] = len(self.found)
            self.found.append(thing)
            self.origins.append(origin)
        return self.places[thing]

    def way_to(self, place):
        """The thing with which the search began on its way to this place, and the deeds on that way."""
        taken = []
        while self.origins[place] is not None:
            place, deed = self.origins[place]
            taken.append(deed)
        return self.found[place], tuple(taken[::-1])
