"""What several test files need."""

from ledelsewhere.rules import Rule
from ledelsewhere.sites import Site

REFUSE = ("refuse",)
ALL_WORDS = ("if", "ask", "set", "refuse", "lead")
# One value of each kind that a point may pass where it says that any value is judged.
ANY_VALUES = (None, True, False, 0, 1, -1, "", "desk", "no such", (), ("desk",), [], ["desk"], {}, {"desk": 1}, ([{}],))


def site_with(enter=(), leave=(), bits=("in", "out")):
    """A site of two pages; the guards are those of its page desk."""
    return Site(bits, (("home", ((), (), False)), ("desk", (enter, leave, False))), "home")


def nest(inner, times):
    """The rows, times over as the first rows of an ask row."""
    rows = inner
    for _ in range(times):
        rows = (("ask", rows, ()),)
    return rows


def deep_value(depth):
    """A value that is nested so deep."""
    value = ()
    for _ in range(depth):
        value = (value,)
    return value


def same(first, second):
    """Equal, with flags and integers told apart, and lists and tuples too."""
    return repr(first) == repr(second)


def labelled(rows, before=()):
    """Each row as (position, row, the two labelled lists of rows inside it)."""
    found = []
    for index, row in enumerate(rows):
        here = before + (index,)
        inside = [labelled(inner, here + (at,)) for at, inner in enumerate(row[-2:]) if row[0] in ("if", "ask")]
        found.append((here, row, inside))
    return found


def rest_from(todo, position):
    """The labelled rows from the position on, as they follow one another."""
    if len(position) == 1:
        return todo[position[0]:]
    inside = todo[position[0]][2][position[1]]
    return rest_from(inside, position[2:]) + todo[position[0] + 1:]


def made_rows(source, many, words, bits, pages, depth=1):
    """So many rows and fewer, made up from the source of random numbers."""
    rows = []
    while many > 0:
        word = source.choice(words)
        many = many - 1
        if word in ("if", "ask") and depth < 4:
            inside = source.randint(0, many)
            first = source.randint(0, inside)
            counts = (first, inside - first)
            both = tuple(made_rows(source, count, words, bits, pages, depth + 1) for count in counts)
            rows.append(("if", source.choice(bits)) + both if word == "if" else ("ask",) + both)
            many = many - inside
        elif word == "set":
            rows.append(("set", source.choice(bits), source.choice((False, True))))
        elif word in ("refuse", "lead") and source.randint(0, 2) == 0:
            rows.append(REFUSE if word == "refuse" else ("lead", source.choice(pages)))
    return tuple(rows)


def made_site(source, words=ALL_WORDS, enter_words=None, loading=True, most_rows=4):
    """A site with rows of these words, made up from the source of random numbers."""
    bits = ("in", "out", "c")[:source.randint(0, 3)]
    names = ("home", "desk", "cup", "door", "end")[:source.randint(2, 4)]
    pages = []
    for name in names:
        guards = []
        for allowed in (enter_words or words, tuple(word for word in words if word != "lead")):
            allowed = tuple(word for word in allowed if bits or word not in ("if", "set"))
            many = source.randint(0, most_rows) if allowed else 0
            guards.append(made_rows(source, many, allowed, bits, names))
        pages.append((name, (guards[0], guards[1], loading and source.choice((False, True)))))
    return Site(bits, tuple(pages), source.choice(names), keep=source.randint(2, 4))


def made_deed(source, standing, known):
    """One of the known deeds; more often than not one that has something to do in the standing."""
    way, late = standing[4], standing[5]
    # Of the clicks there are many, so each back and forward counts twice.
    newer = [deed for deed in known if deed[0] in ("click", "back", "forward")] + [("back",), ("forward",)]
    fitting = newer
    if way is not None and source.randint(0, 3) > 0:
        fitting = [deed for deed in known if deed[0] == ("load" if way[1] == "load" else "answer")]
    elif late and source.randint(0, 1) == 0:
        fitting = [deed for deed in known if deed[0] == "late"]
    return source.choice(source.choice((fitting, fitting, fitting, known)))


def rule_of(words):
    """The rule with these five words."""
    turn, newer, lead, again, backs = words.split()
    return Rule(turn, newer, lead=lead, again=again == "again", backs=backs == "backs")


def replaced(values, at, item):
    """The tuple with another item at the index."""
    return values[:at] + (item,) + values[at + 1:]
