"""Standings and deeds: which values they are, and all of them that books use."""

from ledelsewhere.guards import are_flags, is_ask_position
from ledelsewhere.sites import is_integer

KINDS_OF_WAYS = ("click", "step")
MOST_LEADS = 5
MOST_LATE = 2


def all_flags(site):
    """A list of all tuples of flags of the site, the first bit counting most, False before True."""
    found = [()]
    for bit in site.bits:
        found = [flags + (flag,) for flags in found for flag in (False, True)]
    return found


def put_page(site, history, place, page):
    """The history and the place after the page is put into the history at the place."""
    entries = history[:place + 1] + (page,)
    if len(entries) > site.keep:
        entries = entries[1:]
    return entries, len(entries) - 1


def view_of(standing):
    """The address and the page that is shown, a pair."""
    flags, shown, history, place, way, late = standing
    return history[place], shown


def is_standing(site, rule, value):
    """True if the value, which is any value, is a standing of the site under the rule."""
    if not isinstance(value, tuple) or len(value) != 6:
        return False
    flags, shown, history, place, way, late = value
    if not are_flags(site, flags) or shown not in site.page_names() or not is_history(site, history, place):
        return False
    return is_late(site, rule, late) and (way is None or is_way(site, rule, way))


def is_history(site, history, place):
    """True for a tuple of 1 to keep names of pages with an index in it."""
    if not isinstance(history, tuple) or not 1 <= len(history) <= site.keep:
        return False
    return are_page_names(site, history) and is_integer(place) and 0 <= place < len(history)


def are_page_names(site, values):
    """True if all values are names of pages."""
    names = site.page_names()
    return all([value in names for value in values])


def is_late(site, rule, value):
    """True for a tuple of names of pages that may be late under the rule."""
    if not isinstance(value, tuple) or len(value) > MOST_LATE or not are_page_names(site, value):
        return False
    return value == () or rule.newer == "race"


def is_way(site, rule, value):
    """True for the tuple of a way that waits somewhere."""
    if not isinstance(value, tuple) or len(value) != 7:
        return False
    kind, stage, position, left, plan, spot, led = value
    if kind not in KINDS_OF_WAYS or left not in site.page_names() or not is_history(site, plan, spot):
        return False
    if not is_integer(led) or not 0 <= led <= MOST_LEADS:
        return False
    return may_wait(site, rule, stage, position, left, plan[spot])


def may_wait(site, rule, stage, position, left, target):
    """True if a way may wait at this stage and position."""
    if stage == "leave":
        return is_ask_position(site.guard(left, "leave"), position)
    if stage == "enter":
        return is_ask_position(site.guard(target, "enter"), position)
    if stage == "load":
        return site.loads(target) and position == ()
    if stage == "anew":
        return site.loads(target) and rule.again and is_ask_position(site.guard(target, "enter"), position)
    return False


def is_deed(site, value):
    """True if the value, which is any value, is a deed of the site."""
    if not isinstance(value, tuple) or len(value) == 0:
        return False
    word = value[0]
    if word == "click":
        return len(value) == 2 and value[1] in site.page_names()
    if word == "answer" or word == "load":
        return len(value) == 2 and isinstance(value[1], bool)
    if word == "late":
        return len(value) == 3 and is_integer(value[1]) and 0 <= value[1] < MOST_LATE and isinstance(value[2], bool)
    if word == "flip":
        return len(value) == 2 and value[1] in site.bits
    return value == ("back",) or value == ("forward",)


def deeds(site, *, flips=True):
    """A list of the deeds that books use, in their order."""
    found = [("click", page) for page in site.page_names()]
    found.extend([("back",), ("forward",)])
    found.extend([(word, flag) for word in ("answer", "load") for flag in (False, True)])
    found.extend([("late", at, flag) for at in range(MOST_LATE) for flag in (False, True)])
    if flips:
        found.extend([("flip", bit) for bit in site.bits])
    return found
