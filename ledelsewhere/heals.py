"""Changes of a rule and of guards, and which of them heal a kind of fault."""

from ledelsewhere.books import Book
from ledelsewhere.checks import MOST_STANDINGS, check_bound, check_kind, check_rules
from ledelsewhere.errors import InvalidChange, LedError
from ledelsewhere.rules import PARTS, may_have

MOST_CANDIDATES = 6


def is_change(site, rule, value):
    """True if the value, which is any value, is a change of the site and the rule."""
    if not isinstance(value, tuple) or len(value) == 0:
        return False
    if value[0] == "rule":
        return len(value) == 3 and value[1] in PARTS and may_have(value[1], value[2])
    return value[0] == "guard" and len(value) == 4 and may_stand(site, value[1], value[2], value[3])


def with_changes(site, rule, changes):
    """The site and the rule with all the changes made, a tuple."""
    for index, change in enumerate(changes):
        if not is_change(site, rule, change) or aim_of(change) in aims_of(changes[:index]):
            raise InvalidChange(index)
    for change in changes:
        if change[0] == "rule":
            rule = rule.with_part(change[1], change[2])
        else:
            site = site.with_guard(change[1], change[2], change[3])
    return site, rule


def heals(site, rule, kind, candidates, *, flips=True, limit=2000):
    """A list of all sets of the fewest candidates, at most two, that heal the kind of fault."""
    check_bound(limit, MOST_STANDINGS)
    check_kind(kind)
    for index, change in enumerate(candidates):
        if index >= MOST_CANDIDATES or not is_change(site, rule, change) or change in candidates[:index]:
            raise InvalidChange(index)
    had = kinds_of(site, rule, flips, limit)
    if kind not in had:
        return [()]
    allowed = [known for known in had if known != kind]
    for sets in (single_sets(candidates), double_sets(candidates)):
        healing = []
        for changes in sets:
            changed_site, changed_rule = with_changes(site, rule, changes)
            if are_within(kinds_of(changed_site, changed_rule, flips, limit), allowed):
                healing.append(changes)
        if len(healing) > 0:
            return healing
    return []


def rules_free(site, kinds, rules, *, flips=True, limit=2000):
    """A list of the indexes of the rules under which the site has no fault of any of the kinds."""
    check_bound(limit, MOST_STANDINGS)
    for kind in kinds:
        check_kind(kind)
    check_rules(rules)
    found = [kinds_of(site, rule, flips, limit) for rule in rules]
    return [index for index, had in enumerate(found) if not any([kind in had for kind in kinds])]


def may_stand(site, page, side, rows):
    """True if the rows, which are any value, may be the guard of the page on this side."""
    try:
        site.with_guard(page, side, rows)
    except LedError:
        return False
    return True


def aim_of(change):
    """The aim of the change: all of it but its last item, which says what stands there afterwards."""
    return change[:-1]


def aims_of(changes):
    """A list of the aims of the changes."""
    return [aim_of(change) for change in changes]


def single_sets(candidates):
    """A list of the tuples of one candidate."""
    return [(change,) for change in candidates]


def double_sets(candidates):
    """A list of the tuples of two candidates with different aims."""
    return [
        (change, later)
        for index, change in enumerate(candidates)
        for later in candidates[index + 1:]
        if aim_of(change) != aim_of(later)
    ]


def kinds_of(site, rule, flips, limit):
    """A list of the kinds of the faults of the site under the rule."""
    return Book(site, rule, flips=flips, limit=limit).verdict().kinds()


def are_within(kinds, allowed):
    """True if all kinds are allowed."""
    return all([kind in allowed for kind in kinds])
