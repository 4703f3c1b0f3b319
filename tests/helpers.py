"""What several test files need."""

from ledelsewhere.sites import Site

REFUSE = ("refuse",)
# One value of each kind that a point may pass where it says that any value is judged.
ANY_VALUES = (None, True, False, 0, 1, -1, "", "desk", "no such", (), ("desk",), [], ["desk"], {}, {"desk": 1}, ([{}],))


def site_with(enter=(), leave=(), bits=("in", "out")):
    """A site of two pages; the guards are those of its page desk."""
    return Site(bits, (("home", ((), (), False)), ("desk", (enter, leave, False))), "home")


def nest(inner, times):
    """The rows, times over as the first rows of an ask row."""
    rows = inner
    for _ in range(times):
        rows = (("ask", rows, ()),)
    return rows


def deep_value(depth):
    """A value that is nested so deep."""
    value = ()
    for _ in range(depth):
        value = (value,)
    return value


def same(first, second):
    """Equal, with flags and integers told apart, and lists and tuples too."""
    return repr(first) == repr(second)
