"""Routing: what a start and each deed do, and all that happens meanwhile."""

from ledelsewhere.errors import InvalidDeed, InvalidFlags, InvalidStanding, TooManyLeads
from ledelsewhere.guards import are_flags, go_on
from ledelsewhere.sites import SIDES, with_item
from ledelsewhere.standings import MOST_LATE, MOST_LEADS, is_deed, is_standing, put_page


class Step:
    """What a start or a deed did; the deed and the standing before are None for a start."""

    def __init__(self, deed, before, after, events, done):
        self.deed = deed
        self.before = before
        self.after = after
        self.events = events
        self.done = done


def begin(site, rule, flags):
    """The Step of a start with these flags, which are any value."""
    if not are_flags(site, flags):
        raise InvalidFlags(flags)
    return Step(None, None, (flags, site.start, (site.start,), 0, None, ()), (), ())


def step(site, rule, standing, deed):
    """The Step of the deed from the standing; both are any values."""
    if not is_standing(site, rule, standing):
        raise InvalidStanding()
    if not is_deed(site, deed):
        raise InvalidDeed(deed)
    return step_of(site, rule, standing, deed)


def step_of(site, rule, standing, deed):
    """The Step of a deed from a standing, both known to be right."""
    course = Course(site, rule, standing)
    course.do_deed(deed)
    return Step(deed, standing, course.end_standing(), tuple(course.events), in_site_order(site, course.paths))


def in_site_order(site, paths):
    """The paths without duplicates, a tuple."""
    names = site.page_names()
    places = [(names.index(page), SIDES.index(side), position) for page, side, position in paths]
    # Positions in their order as tuples are in site order: a row comes before the rows inside it.
    return tuple([(names[page], SIDES[side], position) for page, side, position in sorted(set(places))])


class Way:
    """A way that is under way."""

    def __init__(self, kind, stage, position, left, plan, spot, led):
        self.kind = kind
        self.stage = stage
        self.position = position
        self.left = left
        self.plan = plan
        self.spot = spot
        self.led = led

    def target(self):
        """The page to which the way goes now."""
        return self.plan[self.spot]

    def as_tuple(self):
        """The way as it stands in a standing."""
        return self.kind, self.stage, self.position, self.left, self.plan, self.spot, self.led


class Course:
    """A deed while it is done: the standing as it is by now, the events and the paths of the rows that were done."""

    def __init__(self, site, rule, standing):
        flags, shown, history, place, way, late = standing
        self.site = site
        self.rule = rule
        self.flags = flags
        self.shown_page = shown
        self.history = history
        self.place = place
        self.way = None
        if way is not None:
            self.way = Way(*way)
        self.late_pages = late
        self.events = []
        self.paths = []

    def end_standing(self):
        """The standing as it is by now."""
        way = None
        if self.way is not None:
            way = self.way.as_tuple()
        return self.flags, self.shown_page, self.history, self.place, way, self.late_pages

    def do_deed(self, deed):
        """Does the deed."""
        word = deed[0]
        if word == "answer":
            self.take_answer(deed[1])
        elif word == "load":
            self.take_load(deed[1])
        elif word == "late":
            self.take_late(deed[1], deed[2])
        elif word == "flip":
            self.take_flip(deed[1])
        elif self.way is None:
            self.set_out(deed)
        elif self.rule.newer != "ignore":
            self.drop_way()
            self.set_out(deed)

    def take_answer(self, flag):
        """Goes on with the guard at whose ask row the way waits, if there is one."""
        way = self.way
        if way is not None and way.stage != "load":
            self.do_guard(way.position, (flag,))

    def take_load(self, flag):
        """Ends the load for which the way waits, if there is one."""
        way = self.way
        if way is None or way.stage != "load":
            return
        if not flag:
            self.give_up()
        elif self.rule.again:
            way.stage = "anew"
            self.do_guard((0,), ())
        else:
            self.arrive()

    def take_late(self, at, flag):
        """Takes the late page at the index, if there is one."""
        if at >= len(self.late_pages):
            return
        page = self.late_pages[at]
        self.late_pages = self.late_pages[:at] + self.late_pages[at + 1:]
        if flag:
            self.shown_page = page
        self.events.append(("late", page, flag))

    def take_flip(self, bit):
        """Gives the bit the other flag."""
        at = self.site.bits.index(bit)
        self.flags = with_item(self.flags, at, not self.flags[at])
        self.events.append(("bit", bit, self.flags[at]))

    def drop_way(self):
        """Drops the way that is under way; under "race" a load of it may still come."""
        way = self.way
        self.events.append(("dropped", way.stage))
        if self.rule.newer == "race" and way.stage == "load":
            self.late_pages = (self.late_pages + (way.target(),))[-MOST_LATE:]
        self.way = None

    def set_out(self, deed):
        """Begins the way of a click, a back or a forward, if there is a page to go to."""
        if deed[0] == "click":
            if deed[1] != self.history[self.place]:
                plan, spot = put_page(self.site, self.history, self.place, deed[1])
                self.begin_way("click", plan, spot)
        elif deed[0] == "back":
            if self.place > 0:
                self.begin_way("step", self.history, self.place - 1)
        elif self.place < len(self.history) - 1:
            self.begin_way("step", self.history, self.place + 1)

    def begin_way(self, kind, plan, spot):
        """Begins a way with the stage leave."""
        self.way = Way(kind, "leave", (), self.shown_page, plan, spot, 0)
        if kind == "click" or self.rule.backs:
            self.do_guard((0,), ())
        else:
            self.enter()

    def enter(self):
        """The stage enter, for the target of now."""
        way = self.way
        way.stage = "enter"
        if way.kind == "click" or self.rule.backs or way.led > 0:
            self.do_guard((0,), ())
        else:
            self.turn_and_load()

    def do_guard(self, position, answers):
        """Does the guard of the way's stage from the position on, then what follows from its outcome.

        The answers are () if the guard begins, or the one answer to the ask row at the position.
        """
        way = self.way
        page, side = way.target(), "enter"
        if way.stage == "leave":
            page, side = way.left, "leave"
        rows = self.site.guard(page, side)
        outcome, flags, where, met = go_on(self.site.bits, rows, self.flags, position, answers)
        self.flags = flags
        # An ask row was done when the guard reached it, not when its answer comes.
        for at, row in met[len(answers):]:
            self.paths.append((page, side, at))
            if row[0] == "set":
                self.events.append(("bit", row[1], row[2]))
        if outcome == "wait":
            way.position = where
            self.events.append(("asked", page, side))
        else:
            self.events.append(("guard", page, side, outcome))
            self.end_guard(outcome, where)

    def end_guard(self, outcome, where):
        """Goes on with the way behind the end of a guard."""
        if outcome == "refuse":
            self.give_up()
        elif outcome == "lead":
            self.be_led(where)
        elif self.way.stage == "leave":
            self.enter()
        elif self.way.stage == "enter":
            self.turn_and_load()
        else:
            self.arrive()

    def be_led(self, page):
        """Gives the way another target and does the stage enter for it."""
        way = self.way
        if way.led >= MOST_LEADS:
            raise TooManyLeads(page)
        way.led = way.led + 1
        if self.rule.lead == "instead":
            way.plan = with_item(way.plan, way.spot, page)
        else:
            way.plan, way.spot = put_page(self.site, way.plan, way.spot, page)
        self.events.append(("led", page))
        self.enter()

    def turn_and_load(self):
        """The stages turn and load; without a load the way arrives."""
        if self.rule.turn == "first":
            self.turn_address()
        way = self.way
        if self.site.loads(way.target()):
            way.stage = "load"
            way.position = ()
            self.events.append(("loads", way.target()))
        else:
            self.arrive()

    def turn_address(self):
        """Gives the history and the place the values that the way has for them."""
        self.history = self.way.plan
        self.place = self.way.spot
        self.events.append(("turned", self.history, self.place))

    def arrive(self):
        """Shows the target and ends the way."""
        if self.rule.turn == "last":
            self.turn_address()
        self.shown_page = self.way.target()
        self.events.append(("shown", self.shown_page))
        self.way = None

    def give_up(self):
        """Ends the way without an arrival."""
        self.events.append(("over",))
        self.way = None
