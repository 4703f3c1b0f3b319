"""The judge: the faults of a start or a deed."""

from ledelsewhere.guards import lets

KINDS = ("apart", "barred", "passed", "doubled", "late", "unasked", "written", "round")


class Lettings:
    """Which guards of a site let by; each one is looked at once only for each tuple of flags."""

    def __init__(self, site):
        self.site = site
        self.known = {}

    def are_let(self, page, side, flags):
        """True if the guard lets by under the flags."""
        key = (page, side, flags)
        if key not in self.known:
            self.known[key] = lets(self.site, page, side, flags)
        return self.known[key]


def faults(site, rule, step):
    """A list of the pairs (kind, page), the kinds in their order, then the pages in that of the site."""
    return faults_with(Lettings(site), rule, step)


def faults_with(lettings, rule, step):
    """The faults; whoever judges many Steps of one site passes the same lettings, which makes this quick."""
    site = lettings.site
    pages = {
        "apart": apart_pages(step),
        "barred": barred_pages(lettings, step),
        "passed": passed_pages(lettings, step),
        "doubled": doubled_pages(step),
        "late": shown_late(step),
        "unasked": unasked_pages(site, rule, step),
        "written": written_pages(rule, step),
        # A deed that is led too often raises, so there is no Step of it.
        "round": [],
    }
    return [(kind, page) for kind in KINDS if pages[kind] for page in site.page_names() if page in pages[kind]]


def arrivals(step):
    """The pages at which a way arrives, a list."""
    return [event[1] for event in step.events if event[0] == "shown"]


def shown_late(step):
    """The late pages that are shown, a list."""
    return [event[1] for event in step.events if event[0] == "late" and event[2]]


def newly_shown(step):
    """The pages that are newly shown, a list."""
    return arrivals(step) + shown_late(step)


def apart_pages(step):
    """The shown page if it is not the page of the address at rest."""
    flags, shown, history, place, way, late = step.after
    if way is None and shown != history[place]:
        return [shown]
    return []


def barred_pages(lettings, step):
    """The newly shown pages whose enter guards do not let by."""
    flags = step.after[0]
    return [page for page in newly_shown(step) if not lettings.are_let(page, "enter", flags)]


def passed_pages(lettings, step):
    """The elder page if another page is newly shown although the leave guard does not let by."""
    if step.before is None:
        return []
    flags = step.after[0]
    elder = step.before[1]
    if any([page != elder for page in newly_shown(step)]) and not lettings.are_let(elder, "leave", flags):
        return [elder]
    return []


def doubled_pages(step):
    """The pages that two entries side by side have at rest."""
    flags, shown, history, place, way, late = step.after
    if way is not None:
        return []
    return [history[at] for at in range(1, len(history)) if history[at - 1] == history[at]]


def unasked_pages(site, rule, step):
    """The pages at which a way arrives that has not done their enter guards, which have rows."""
    return [
        page
        for page in arrivals(step)
        if len(site.guard(page, "enter")) > 0
        and ("guard", page, "enter", "let") not in step.events
        and not was_asked_before(rule, step)
    ]


def was_asked_before(rule, step):
    """True if the way that arrives has waited for its load and had done the enter guard of its target by then."""
    if step.deed[0] != "load":
        return False
    kind, stage, position, left, plan, spot, led = step.before[4]
    return kind == "click" or rule.backs or led > 0


def written_pages(rule, step):
    """The pages of entries that a way of the kind "step" wrote over."""
    if rule.lead != "instead" or kind_of_way(step) != "step":
        return []
    history = step.before[2]
    # A deed turns the address at most once, so the history before the event is the one before the deed.
    return [
        history[event[2]]
        for event in step.events
        if event[0] == "turned" and event[2] < len(history) and history[event[2]] != event[1][event[2]]
    ]


def kind_of_way(step):
    """The kind of the way that the deed begins or goes on with, or None."""
    if step.deed is None:
        return None
    if step.deed[0] == "click":
        return "click"
    if step.deed[0] == "back" or step.deed[0] == "forward":
        return "step"
    way = step.before[4]
    if way is None:
        return None
    return way[0]
