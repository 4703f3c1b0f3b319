"""Drafts: a site and its guards while their lines are read."""

from ledelsewhere.sites import is_name

KEEPS = ("2", "3", "4")


class Draft:
    """A site while its lines are read.

    The part says which lines may come: "bits", "start", "keep" and "pages" stand for the first four lines, "page" for
    the line behind a page line, and "enter" and "leave" for the two guards of a page.
    """

    def __init__(self):
        self.part = "bits"
        self.bits = ()
        self.start = None
        self.keep = None
        # The pages ahead of the one that is read now.
        self.pages = ()
        self.name = None
        self.loading = False
        self.enter_rows = None
        self.leave_rows = None

    def take(self, words):
        """Takes the words of the next line; returns False if the line is not allowed."""
        if self.part == "bits":
            return self.take_bits(words)
        if self.part == "start":
            return self.take_start(words)
        if self.part == "keep":
            return self.take_keep(words)
        if self.part == "page":
            return self.take_enter(words)
        if words[0] == "page":
            return self.take_page(words)
        if self.part == "enter":
            return self.take_leave(words) or self.enter_rows.take_row(words)
        return self.part == "leave" and self.leave_rows.take_row(words)

    def may_end(self):
        """True if the lines that were taken are those of whole pages, so that the text may end or a page may begin."""
        return self.part == "pages" or self.part == "leave" and self.leave_rows.are_whole()

    def all_pages(self):
        """The pages as a site has them, when the last one is whole."""
        if self.part == "pages":
            return ()
        return self.pages + ((self.name, (tuple(self.enter_rows.rows), tuple(self.leave_rows.rows), self.loading)),)

    def take_bits(self, words):
        """Takes the first line, if it is one."""
        if words[0] != "bits" or not all([is_name(word) for word in words[1:]]):
            return False
        self.bits = tuple(words[1:])
        self.part = "start"
        return True

    def take_start(self, words):
        """Takes the second line, if it is one."""
        if len(words) != 2 or words[0] != "start" or not is_name(words[1]):
            return False
        self.start = words[1]
        self.part = "keep"
        return True

    def take_keep(self, words):
        """Takes the third line, if it is one."""
        if len(words) != 2 or words[0] != "keep" or words[1] not in KEEPS:
            return False
        self.keep = int(words[1])
        self.part = "pages"
        return True

    def take_page(self, words):
        """Takes a page line, if it is one and may stand here."""
        if not self.may_end() or len(words) < 2 or not is_name(words[1]) or words[2:] not in ([], ["loads"]):
            return False
        self.pages = self.all_pages()
        self.name = words[1]
        self.loading = len(words) == 3
        self.part = "page"
        return True

    def take_enter(self, words):
        """Takes the line enter, if it is one."""
        if words != ["enter"]:
            return False
        self.enter_rows = DraftRows()
        self.part = "enter"
        return True

    def take_leave(self, words):
        """Takes the line leave, if it is one and may stand here."""
        if words != ["leave"] or not self.enter_rows.are_whole():
            return False
        self.leave_rows = DraftRows()
        self.part = "leave"
        return True


class DraftRows:
    """The rows of a guard while their lines are read: the innermost open rows, and the rows that are open."""

    def __init__(self):
        self.rows = []
        # The outermost one first; a list keeps this from deep recursion.
        self.open_rows = []

    def are_whole(self):
        """True if no row is open."""
        return len(self.open_rows) == 0

    def take_row(self, words):
        """Takes a line of a row, if it is one and may stand here."""
        if words == ["else"]:
            return self.take_else()
        if words == ["end"]:
            return self.take_end()
        if is_head(words):
            self.open_rows.append(OpenRow(tuple(words), self.rows))
            self.rows = []
            return True
        row = small_row(words)
        if row is None:
            return False
        self.rows.append(row)
        return True

    def take_else(self):
        """Takes the line else, if it may stand here."""
        if self.are_whole() or self.open_rows[-1].first_rows is not None:
            return False
        self.open_rows[-1].first_rows = tuple(self.rows)
        self.rows = []
        return True

    def take_end(self):
        """Takes the line end, if it may stand here."""
        if self.are_whole() or self.open_rows[-1].first_rows is None:
            return False
        ended = self.open_rows.pop()
        self.rows = ended.around + [ended.head + (ended.first_rows, tuple(self.rows))]
        return True


class OpenRow:
    """An if row or an ask row whose line end has not come yet, with the rows that stand ahead of it beside it."""

    def __init__(self, head, around):
        self.head = head
        self.around = around
        # None as long as the line else has not come.
        self.first_rows = None


def is_head(words):
    """True for the words that open an if row or an ask row."""
    return words == ["ask"] or len(words) == 2 and words[0] == "if" and is_name(words[1])


def small_row(words):
    """The row with these words that has no rows inside it, or None."""
    if words == ["refuse"]:
        return ("refuse",)
    if len(words) == 2 and words[0] == "lead" and is_name(words[1]):
        return "lead", words[1]
    if len(words) == 3 and words[0] == "set" and is_name(words[1]) and words[2] in ("on", "off"):
        return "set", words[1], words[2] == "on"
    return None
