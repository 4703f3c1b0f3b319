"""Which sites under rules, and which standings of a book, are alike, and the least deeds that show a difference."""

from ledelsewhere.abreast import Abreast, AbreastInBook
from ledelsewhere.checks import check_bound, check_rules
from ledelsewhere.errors import NotComparable
from ledelsewhere.sides import Side
from ledelsewhere.standings import all_flags, is_standing

MOST_TUPLES = 20000


def difference(first, second, *, flips=True, limit=5000):
    """The least run that shows a difference between two tuples (site, rule), or None."""
    check_bound(limit, MOST_TUPLES)
    return least_difference(abreast_of(first, second, flips, limit))


def alike(first, second, *, flips=True, limit=5000):
    """True if no run shows a difference between two tuples (site, rule)."""
    return difference(first, second, flips=flips, limit=limit) is None


def pairing(first, second, *, flips=True, limit=5000):
    """A list of the tuples of two standings to which the same runs lead, or None if the two are not alike."""
    check_bound(limit, MOST_TUPLES)
    abreast = abreast_of(first, second, flips, limit)
    if least_difference(abreast) is not None:
        return None
    ones = abreast.first.trail.found
    others = abreast.second.trail.found
    return [(ones[one], others[other]) for one, other in abreast.trail.found]


def is_pairing(first, second, value, *, flips=True):
    """True if the value, which is any value, is a pairing of two tuples (site, rule)."""
    abreast = abreast_of(first, second, flips, None)
    if not isinstance(value, list) or not all([is_pair_of_standings(first, second, item) for item in value]):
        return False
    held = {}
    for one, other in value:
        held[(abreast.first.trail.meet(one, None), abreast.second.trail.meet(other, None))] = True
    if not all([start_pair(abreast, flags) in held for flags in all_flags(first[0])]):
        return False
    return all([is_held_behind(abreast, held, pair) for pair in held])


def parting(book, first, second):
    """The least tuple of deeds that shows a difference between two standings of the book, or None."""
    pair = (book.place_of(first), book.place_of(second))
    abreast = AbreastInBook(book.survey)
    if not abreast.begin_with(pair):
        return ()
    found = abreast.search()
    if found is None:
        return None
    return found[1]


def classes(book):
    """A list of lists of indexes of standings of the book, those of one list being alike."""
    survey = book.survey
    marks = numbered([survey.view_at(place) for place in range(len(book))])
    groups = groups_of(marks)
    many = 0
    # Standings get different marks as soon as one more deed shows a difference, until no deed shows a new one.
    while many < len(groups):
        many = len(groups)
        marks = numbered([(marks[place], marks_behind(survey, marks, place)) for place in range(len(book))])
        groups = groups_of(marks)
    return groups


def rules_alike(site, rules, *, flips=True, limit=5000):
    """A list of lists of indexes of the rules, those of one list being alike for the site."""
    check_bound(limit, MOST_TUPLES)
    check_rules(rules)
    sides = [Side(site, rule, flips, None) for rule in rules]
    groups = []
    for at, side in enumerate(sides):
        # Each earlier rule is compared, not one of each list alone, since each comparison may exceed the limit.
        same = [least_difference(Abreast(earlier, side, limit)) is None for earlier in sides[:at]]
        joined = [group for group in groups if same[group[0]]]
        if len(joined) == 0:
            groups.append([at])
        else:
            joined[0].append(at)
    return groups


def abreast_of(first, second, flips, limit):
    """The two tuples (site, rule) as two sides abreast, if they can be compared."""
    if first[0].bits != second[0].bits:
        raise NotComparable("bits")
    if first[0].page_names() != second[0].page_names():
        raise NotComparable("pages")
    return Abreast(Side(first[0], first[1], flips, None), Side(second[0], second[1], flips, None), limit)


def start_pair(abreast, flags):
    """The pair of the places behind the starts with these flags."""
    return abreast.first.start_place(flags), abreast.second.start_place(flags)


def least_difference(abreast):
    """The least run that shows a difference, or None; the trail holds the pairs to which runs ahead of it lead."""
    for flags in all_flags(abreast.first.site):
        if not abreast.begin_with(start_pair(abreast, flags)):
            return flags, ()
    found = abreast.search()
    if found is None:
        return None
    start, taken = found
    return abreast.first.trail.found[start[0]][0], taken


def is_pair_of_standings(first, second, item):
    """True for a tuple of a standing of the first tuple (site, rule) and one of the second."""
    if not isinstance(item, tuple) or len(item) != 2:
        return False
    return is_standing(first[0], first[1], item[0]) and is_standing(second[0], second[1], item[1])


def is_held_behind(abreast, held, pair):
    """True if the pair shows no difference and each deed is refused from both of its places or leads to a held pair."""
    if abreast.differ(pair):
        return False
    # A deed that is refused on one side only gives a pair with None, which is never held.
    return all([after == (None, None) or after in held for after in abreast.pairs_behind(pair)])


def numbered(values):
    """For each value the number of values that were new ahead of the first one that is equal to it."""
    numbers = {}
    for value in values:
        numbers.setdefault(value, len(numbers))
    return [numbers[value] for value in values]


def groups_of(marks):
    """The indexes with the same mark together; the marks are numbered."""
    groups = []
    for at, mark in enumerate(marks):
        if mark == len(groups):
            groups.append([])
        groups[mark].append(at)
    return groups


def marks_behind(survey, marks, place):
    """For each of the deeds the mark of the standing behind it, None for a deed that is refused."""
    return tuple([None if behind is None else marks[behind] for behind in survey.places_behind(place)])
