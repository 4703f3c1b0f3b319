"""Counts: leads, rows that are never done, pages that are shown, and standings that are lost."""

from ledelsewhere.errors import UnknownPage


def most_leads(book):
    """The greatest number of leads of one deed and the least run that ends with such a deed, or (0, None)."""
    survey = book.survey
    if survey.first_most is None:
        return 0, None
    return survey.most, survey.run_with(survey.first_most)


def never_done(book):
    """A list of the paths of the rows that no deed does, in site order."""
    return [path for path in book.site.row_paths() if path not in book.survey.paths_done]


def least_shown(book, page):
    """The least run that leads to a standing in which the page is shown, or None."""
    if page not in book.site.page_names():
        raise UnknownPage(page)
    for place, standing in enumerate(book.standings()):
        if standing[1] == page:
            return book.survey.run_to(place)
    return None


def is_settled(standing):
    """True if the standing is at rest and shows the page of its address."""
    flags, shown, history, place, way, late = standing
    return way is None and shown == history[place]


def lost(book):
    """A list of the standings from which no deeds lead to a settled one."""
    standings = book.standings()
    reached = {place: True for place, standing in enumerate(standings) if is_settled(standing)}
    ahead = places_ahead(book)
    todo = list(reached)
    while len(todo) > 0:
        behind = todo.pop()
        for place in ahead[behind]:
            if place not in reached:
                reached[place] = True
                todo.append(place)
    return [standing for place, standing in enumerate(standings) if place not in reached]


def places_ahead(book):
    """For each standing a list of the places from which a deed leads to it."""
    ahead = [[] for standing in book.standings()]
    for place in range(len(book)):
        for behind in book.survey.places_behind(place):
            if behind is not None:
                ahead[behind].append(place)
    return ahead
