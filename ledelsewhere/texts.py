"""Texts: sites and lists of deeds as lines, written and read."""

from ledelsewhere.drafts import Draft
from ledelsewhere.errors import InvalidText
from ledelsewhere.sites import Site, is_name

INDEXES = ("0", "1")
ANSWERS = ("no", "yes")


def format_site(site):
    """The text of the site."""
    lines = [" ".join(["bits"] + list(site.bits)), f"start {site.start}", f"keep {site.keep}"]
    for name, page in site.pages:
        enter, leave, loads = page
        lines.append(f"page {name} loads" if loads else f"page {name}")
        lines.extend(["enter"] + row_lines(enter) + ["leave"] + row_lines(leave))
    return text_of(lines)


def parse_site(text):
    """The site that is written as this text."""
    lines = lines_of(text)
    draft = Draft()
    for at, line in enumerate(lines):
        if not draft.take(line.split(" ")):
            raise InvalidText(at + 1)
    if not draft.may_end():
        raise InvalidText(len(lines) + 1)
    return Site(draft.bits, draft.all_pages(), draft.start, keep=draft.keep)


def format_deeds(deeds):
    """The text of the deeds."""
    return text_of([" ".join([word_of(item) for item in deed]) for deed in deeds])


def parse_deeds(text):
    """A list of the deeds that are written as this text."""
    if text == "":
        return []
    found = []
    for at, line in enumerate(lines_of(text)):
        deed = deed_of(line.split(" "))
        if deed is None:
            raise InvalidText(at + 1)
        found.append(deed)
    return found


def text_of(lines):
    """The lines, each followed by a newline."""
    return "".join([f"{line}\n" for line in lines])


def lines_of(text):
    """A list of the lines of the text, which has one at least and ends with a newline."""
    if not text.endswith("\n"):
        raise InvalidText(0)
    return text[:-1].split("\n")


def row_lines(rows):
    """A list of the lines of the rows and of all rows inside them."""
    lines = []
    for row in rows:
        if row[0] == "set":
            lines.append(f"set {row[1]} on" if row[2] else f"set {row[1]} off")
        elif row[0] == "if" or row[0] == "ask":
            # The two tuples of rows stand at the end of the row.
            lines.append(" ".join(row[:-2]))
            lines.extend(row_lines(row[-2]) + ["else"] + row_lines(row[-1]) + ["end"])
        else:
            lines.append(" ".join(row))
    return lines


def word_of(item):
    """An item of a deed as a word."""
    if isinstance(item, bool):
        return "yes" if item else "no"
    return str(item)


def deed_of(words):
    """The deed that is written with these words, or None."""
    if words == ["back"] or words == ["forward"]:
        return (words[0],)
    if len(words) == 2 and is_name(words[1]) and words[0] in ("click", "flip"):
        return words[0], words[1]
    if len(words) == 2 and words[1] in ANSWERS and words[0] in ("answer", "load"):
        return words[0], words[1] == "yes"
    if len(words) == 3 and words[0] == "late" and words[1] in INDEXES and words[2] in ANSWERS:
        return "late", int(words[1]), words[2] == "yes"
    return None
