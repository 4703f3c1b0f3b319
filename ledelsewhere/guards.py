"""Guards: how their rows are done with flags and answers, and all their ends."""

from ledelsewhere.errors import InvalidFlags, InvalidPosition
from ledelsewhere.sites import branches, has_position_form, rows_with_positions, with_item


def run_guard(site, page, side, flags, answers=()):
    """Does the guard from its first row; returns (outcome, flags, where)."""
    rows = checked_rows(site, page, side, flags)
    outcome, after, where, met = go_on(site.bits, rows, flags, (0,), answers)
    return outcome, after, where


def resume_guard(site, page, side, flags, position, answers=()):
    """Goes on from the ask row at the position; returns (outcome, flags, where)."""
    rows = checked_rows(site, page, side, flags)
    if not is_ask_position(rows, position):
        raise InvalidPosition(position)
    outcome, after, where, met = go_on(site.bits, rows, flags, position, answers)
    return outcome, after, where


def all_ends(site, page, side, flags):
    """A list of (answers, outcome, flags, where) for all ends of the guard, ordered by the answers."""
    rows = checked_rows(site, page, side, flags)
    return ends_from(site.bits, rows, flags, (0,), ())


def letting_answers(site, page, side, flags):
    """The least answers with which the guard lets by, or None."""
    best = None
    for answers, outcome, after, where in all_ends(site, page, side, flags):
        # Of equally many answers the least come first, so only fewer ones are better.
        if outcome == "let" and (best is None or len(answers) < len(best)):
            best = answers
    return best


def lets(site, page, side, flags):
    """True if the guard lets by under the flags."""
    return letting_answers(site, page, side, flags) is not None


def are_flags(site, value):
    """True for a tuple with one flag for each bit of the site."""
    if not isinstance(value, tuple) or len(value) != len(site.bits):
        return False
    return all([isinstance(flag, bool) for flag in value])


def checked_rows(site, page, side, flags):
    """The rows of the guard, after the page, the side and the flags were checked."""
    rows = site.guard(page, side)
    if not are_flags(site, flags):
        raise InvalidFlags(flags)
    return rows


def is_ask_position(rows, value):
    """True if the value is the position of an ask row of these rows."""
    if not has_position_form(value):
        return False
    return any([position == value and row[0] == "ask" for position, row in rows_with_positions(rows, ())])


def go_on(bits, rows, flags, position, answers):
    """Does the guard from the position on, which is that of a row or one behind the last row beside it.

    Returns (outcome, flags, where, met): met lists the pairs (position, row) of the rows that were reached.
    """
    met = []
    used = 0
    while position is not None:
        row = row_or_none(rows, position)
        if row is None:
            position = behind(position[:-2])
            continue
        met.append((position, row))
        if row[0] == "if":
            position = into_branch(position, flags[bits.index(row[1])])
        elif row[0] == "ask":
            if used == len(answers):
                return "wait", flags, position, met
            position = into_branch(position, answers[used])
            used = used + 1
        elif row[0] == "set":
            flags = with_item(flags, bits.index(row[1]), row[2])
            position = behind(position)
        elif row[0] == "lead":
            return "lead", flags, row[1], met
        else:
            return "refuse", flags, None, met
    return "let", flags, None, met


def row_or_none(rows, position):
    """The row at the position, or None if the position is one behind the last row beside it."""
    beside = rows
    for at in range(0, len(position) - 1, 2):
        beside = branches(beside[position[at]])[position[at + 1]]
    if position[-1] == len(beside):
        return None
    return beside[position[-1]]


def behind(position):
    """The position one behind this one, or None behind (), which stands for the whole guard."""
    if position == ():
        return None
    return position[:-1] + (position[-1] + 1,)


def into_branch(position, flag):
    """The first position in the first rows inside the row if the flag is True, otherwise in its second rows."""
    if flag:
        return position + (0, 0)
    return position + (1, 0)


def ends_from(bits, rows, flags, position, given):
    """The ends behind the given answers; the last of them, if there is one, answers the ask row at the position."""
    outcome, after, where, met = go_on(bits, rows, flags, position, given[-1:])
    if outcome != "wait":
        return [(given, outcome, after, where)]
    ends = []
    for answer in (False, True):
        ends.extend(ends_from(bits, rows, after, where, given + (answer,)))
    return ends
