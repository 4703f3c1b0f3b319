"""Abreast: the same deeds done on two sides, until they show a difference."""

from ledelsewhere.trails import Trail


class Abreast:
    """Goes on from pairs of places, one of each side, in the order in which the trail meets them."""

    def __init__(self, first, second, limit):
        self.first = first
        self.second = second
        self.trail = Trail(limit)

    def begin_with(self, pair):
        """Holds the pair to begin with it; returns False if it shows a difference itself."""
        if self.differ(pair):
            return False
        self.hold(pair, None)
        return True

    def differ(self, pair):
        """True if the two addresses or the two shown pages differ."""
        return self.first.view_at(pair[0]) != self.second.view_at(pair[1])

    def hold(self, pair, origin):
        """Holds the pair to go on from it later."""
        self.trail.meet(pair, origin)

    def pairs_behind(self, pair):
        """For each of the deeds the pair of places behind it; None stands on each side on which it is refused."""
        return list(zip(self.first.places_behind(pair[0]), self.second.places_behind(pair[1])))

    def search(self):
        """The pair of a beginning and the least deeds from there that show a difference, or None."""
        at = 0
        while at < len(self.trail.found):
            deed = self.parting_deed(at)
            if deed is not None:
                start, taken = self.trail.way_to(at)
                return start, taken + (deed,)
            at = at + 1
        return None

    def parting_deed(self, at):
        """The first deed that shows a difference when it is done from the pair at this place of the trail, or None."""
        pairs = self.pairs_behind(self.trail.found[at])
        for deed, pair in zip(self.first.choices, pairs):
            # What is held shows no difference.
            if pair == (None, None) or pair in self.trail.places:
                continue
            if None in pair or self.differ(pair):
                return deed
            self.hold(pair, (at, deed))
        return None


class AbreastInBook(Abreast):
    """Both sides are one, so the pairs that are held tell of other pairs, too, and fewer of them are enough.

    If one place is held beside a second one and the second beside a third, then the first beside the third is left out:
    deeds that show a difference there show one in one of the two pairs that are held, and those were met earlier.
    """

    def __init__(self, side):
        Abreast.__init__(self, side, side, None)
        # Places have the same head if pairs that are held join them.
        self.heads = list(range(len(side.trail.found)))

    def head_of(self, place):
        """The head of the place."""
        while self.heads[place] != place:
            # Each place on the way is hung higher, so that the next way is shorter.
            self.heads[place] = self.heads[self.heads[place]]
            place = self.heads[place]
        return place

    def hold(self, pair, origin):
        """Holds the pair to go on from it later, if its places are not joined yet."""
        one = self.head_of(pair[0])
        other = self.head_of(pair[1])
        if one != other:
            self.heads[one] = other
            self.trail.meet(pair, origin)
