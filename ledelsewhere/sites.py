"""Sites: their four parts, the rows of their guards, and the paths of these rows."""

from ledelsewhere.errors import InvalidPath, InvalidSide, InvalidSite, UnknownPage

# The order of the sides is that of the two guards in a page.
SIDES = ("enter", "leave")
LETTERS = "abcdefghijklmnopqrstuvwxyz"
LONGEST_NAME = 8
MOST_BITS = 3
FEWEST_PAGES = 2
MOST_PAGES = 5
LEAST_KEEP = 2
GREATEST_KEEP = 4
DEEPEST_BRANCHING = 3
MOST_ROWS = 8


class Site:
    """A site never changes: with_row and with_guard return a new one."""

    def __init__(self, bits, pages, start, *, keep=4):
        check_site(bits, pages, start, keep)
        self.bits = bits
        self.pages = pages
        self.start = start
        self.keep = keep

    def __eq__(self, other):
        return (
            isinstance(other, Site)
            and self.bits == other.bits
            and self.pages == other.pages
            and self.start == other.start
            and self.keep == other.keep
        )

    def page_names(self):
        """The names of the pages in order, a tuple."""
        return names_of(self.pages)

    def guard(self, page, side):
        """The rows of the guard."""
        parts = find_page(self.pages, page)
        for at, known in enumerate(SIDES):
            if known == side:
                return parts[at]
        raise InvalidSide(side)

    def loads(self, page):
        """The flag that says whether the page loads."""
        return find_page(self.pages, page)[2]

    def row_paths(self):
        """A list of the paths of all rows in site order."""
        return [path for path, row in rows_with_paths(self.pages)]

    def row_at(self, path):
        """The row at the path, which is any value."""
        if has_path_form(path):
            for known, row in rows_with_paths(self.pages):
                if known == path:
                    return row
        raise InvalidPath(path)

    def with_row(self, path, row):
        """A new site with another row at the path."""
        self.row_at(path)
        page, side, position = path
        rows = with_item_at(self.guard(page, side), position, row)
        return self.with_guard(page, side, rows)

    def with_guard(self, page, side, rows):
        """A new site with other rows in one guard."""
        self.guard(page, side)
        at = SIDES.index(side)
        pages = []
        for name, parts in self.pages:
            if name == page:
                pages.append((name, with_item(parts, at, rows)))
            else:
                pages.append((name, parts))
        return Site(self.bits, tuple(pages), self.start, keep=self.keep)

    def is_quiet(self):
        """True if no guard has a set row."""
        return all([row[0] != "set" for path, row in rows_with_paths(self.pages)])


def is_integer(value):
    """True for an int that is no flag."""
    return isinstance(value, int) and not isinstance(value, bool)


def is_name(value):
    """True for a text of 1 to 8 letters from a to z."""
    if not isinstance(value, str) or not 1 <= len(value) <= LONGEST_NAME:
        return False
    return all([letter in LETTERS for letter in value])


def are_different_names(values):
    """True if all values are names and no two of them are equal."""
    # A set takes no lists and dicts, so the names are judged first.
    return all([is_name(value) for value in values]) and len(set(values)) == len(values)


def check_site(bits, pages, start, keep):
    """Raises InvalidSite for the first part that is not allowed."""
    if not are_bits(bits):
        raise InvalidSite("bits", ())
    if not are_pages(pages):
        raise InvalidSite("pages", ())
    names = names_of(pages)
    for name, parts in pages:
        for at, side in enumerate(SIDES):
            check_guard(bits, names, name, side, parts[at])
    if start not in names:
        raise InvalidSite("start", ())
    if not is_integer(keep) or not LEAST_KEEP <= keep <= GREATEST_KEEP:
        raise InvalidSite("keep", ())


def are_bits(value):
    """True for a tuple of 0 to 3 different names."""
    return isinstance(value, tuple) and len(value) <= MOST_BITS and are_different_names(value)


def are_pages(value):
    """True for a tuple of 2 to 5 pages with different names, whatever stands in the place of their rows."""
    if not isinstance(value, tuple) or not FEWEST_PAGES <= len(value) <= MOST_PAGES:
        return False
    return all([is_named_page(pair) for pair in value]) and are_different_names(names_of(value))


def is_named_page(value):
    """True for a pair of any value and a page, whatever stands in the place of the rows."""
    if not isinstance(value, tuple) or len(value) != 2:
        return False
    page = value[1]
    return isinstance(page, tuple) and len(page) == 3 and isinstance(page[2], bool)


def names_of(pages):
    """The first items of the pairs, a tuple."""
    return tuple([pair[0] for pair in pages])


def find_page(pages, page):
    """The page with this name, which is any value."""
    for name, parts in pages:
        if name == page:
            return parts
    raise UnknownPage(page)


def check_guard(bits, names, page, side, rows):
    """Raises InvalidSite for the first thing in the guard that is not allowed."""
    if not isinstance(rows, tuple):
        raise InvalidSite("rows", (page, side, ()))
    wrong = first_wrong_row(bits, names, side, rows, ())
    if wrong is not None:
        raise InvalidSite("rows", (page, side, wrong))
    if len(rows_with_positions(rows, ())) > MOST_ROWS:
        raise InvalidSite("many", (page, side, ()))


def first_wrong_row(bits, names, side, rows, before):
    """The position of the first row that is not valid, or None; all their positions begin with before."""
    for index, row in enumerate(rows):
        position = before + (index,)
        if not is_row(bits, names, side, position, row):
            return position
        for branch, inner in enumerate(branches(row)):
            wrong = first_wrong_row(bits, names, side, inner, position + (branch,))
            if wrong is not None:
                return wrong
    return None


def is_row(bits, names, side, position, row):
    """True if the row is valid at its position; the rows inside it are not looked at."""
    if not isinstance(row, tuple) or len(row) == 0:
        return False
    word = row[0]
    if word == "if":
        return len(row) == 4 and row[1] in bits and may_branch(position, row)
    if word == "ask":
        return len(row) == 3 and may_branch(position, row)
    if word == "set":
        return len(row) == 3 and row[1] in bits and isinstance(row[2], bool)
    if word == "lead":
        return len(row) == 2 and row[1] in names and side == "enter"
    return row == ("refuse",)


def may_branch(position, row):
    """True if the last two items are tuples and the position is not too deep for an if row or an ask row."""
    # A position has one item at depth 1 and two more for each further depth.
    depth = (len(position) + 1) // 2
    return depth <= DEEPEST_BRANCHING and isinstance(row[-2], tuple) and isinstance(row[-1], tuple)


def branches(row):
    """The two tuples of rows inside an if row or an ask row, () for each other row."""
    if row[0] == "if" or row[0] == "ask":
        return row[-2:]
    return ()


def rows_with_positions(rows, before):
    """A list of pairs (position, row) in site order; all positions begin with before."""
    found = []
    for index, row in enumerate(rows):
        position = before + (index,)
        found.append((position, row))
        for branch, inner in enumerate(branches(row)):
            found.extend(rows_with_positions(inner, position + (branch,)))
    return found


def rows_with_paths(pages):
    """A list of pairs (path, row) in site order."""
    found = []
    for name, parts in pages:
        for at, side in enumerate(SIDES):
            for position, row in rows_with_positions(parts[at], ()):
                found.append(((name, side, position), row))
    return found


def has_path_form(value):
    """True for a tuple of three items with a tuple of integers as the last one."""
    return isinstance(value, tuple) and len(value) == 3 and has_position_form(value[2])


def has_position_form(value):
    """True for a tuple of integers."""
    # True and 1 are equal in Python, so a position is never looked up before this is known.
    return isinstance(value, tuple) and all([is_integer(item) for item in value])


def with_item(items, at, item):
    """The tuple with another item at the index."""
    return items[:at] + (item,) + items[at + 1:]


def with_item_at(rows, position, row):
    """The rows with another row at the position, which is that of one of them or of a row inside them."""
    index = position[0]
    if len(position) == 1:
        return with_item(rows, index, row)
    outer = rows[index]
    # The two tuples of rows stand at the end of if rows and of ask rows.
    at = len(outer) - 2 + position[1]
    inner = with_item_at(outer[at], position[2:], row)
    return with_item(rows, index, with_item(outer, at, inner))
