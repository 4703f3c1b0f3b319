"""Points 15 to 26 against a second router, which is written in another way: each way is a generator."""

import random
import types
import unittest

from ledelsewhere.errors import TooManyLeads
from ledelsewhere.guards import lets
from ledelsewhere.judge import KINDS, faults
from ledelsewhere.routing import begin, step
from ledelsewhere.rules import all_rules
from ledelsewhere.sites import Site
from ledelsewhere.standings import all_flags, deeds, is_standing
from tests.helpers import labelled, made_deed, made_site, rest_from, same


class Sixth(Exception):
    """The way would be led a sixth time."""


def guarding(site, world, page, side, position):
    """Yields the position of each ask row that is reached and is sent its answer; returns (outcome, page or None).

    It begins with the first row if the position is None, otherwise at this ask row, which it does not reach again.
    """
    todo = labelled(site.guard(page, side))
    if position is not None:
        (here, row, inside), *todo = rest_from(todo, position)
        answer = yield here
        todo = inside[0 if answer else 1] + todo
    while todo:
        (here, row, inside), *todo = todo
        world.done.append((page, side, here))
        if row[0] == "set":
            world.flags[row[1]] = row[2]
            world.events.append(("bit", row[1], row[2]))
        elif row[0] == "if":
            todo = inside[0 if world.flags[row[1]] else 1] + todo
        elif row[0] == "ask":
            world.events.append(("asked", page, side))
            answer = yield here
            todo = inside[0 if answer else 1] + todo
        else:
            return row[0], row[-1]
    return "let", None


def journey(site, rule, world, kind, stage, position, left, plan, spot, led):
    """Yields the way each time it waits and is sent the answer; the position is None if the stage begins."""
    while stage != "arrive":
        target = plan[spot]
        if stage == "load":
            if position is None:
                if rule.turn == "first":
                    world.turn(plan, spot)
                if not site.loads(target):
                    break
                world.events.append(("loads", target))
            success = yield (kind, "load", (), left, plan, spot, led)
            if not success:
                world.events.append(("over",))
                return
            stage, position = ("anew" if rule.again else "arrive"), None
            continue
        page, side = (left, "leave") if stage == "leave" else (target, "enter")
        outcome, to = "let", None
        if position is not None or stage == "anew" or kind == "click" or rule.backs or (stage == "enter" and led > 0):
            guard = guarding(site, world, page, side, position)
            answer = None
            while True:
                try:
                    where = guard.send(answer)
                except StopIteration as end:
                    outcome, to = end.value
                    break
                answer = yield (kind, stage, where, left, plan, spot, led)
            world.events.append(("guard", page, side, outcome))
        position = None
        if outcome == "refuse":
            world.events.append(("over",))
            return
        if outcome == "lead":
            if led == 5:
                raise Sixth(to)
            led = led + 1
            if rule.lead == "put":
                plan = (plan[:spot + 1] + (to,))[-site.keep:]
                spot = len(plan) - 1
            else:
                plan = tuple(to if at == spot else name for at, name in enumerate(plan))
            world.events.append(("led", to))
            stage = "enter"
        else:
            stage = {"leave": "enter", "enter": "load", "anew": "arrive"}[stage]
    if rule.turn == "last":
        world.turn(plan, spot)
    world.shown = plan[spot]
    world.events.append(("shown", plan[spot]))


def second_step(site, rule, standing, deed):
    """The standing after, the events and the rows that were done; raises Sixth."""
    flags, shown, history, place, way, late = standing
    world = types.SimpleNamespace(
        flags=dict(zip(site.bits, flags)), shown=shown, history=history, place=place, events=[], done=[],
    )

    def turn(plan, spot):
        world.history, world.place = plan, spot
        world.events.append(("turned", plan, spot))

    world.turn = turn
    going, told = None, None
    if deed[0] == "flip":
        world.flags[deed[1]] = not world.flags[deed[1]]
        world.events.append(("bit", deed[1], world.flags[deed[1]]))
    elif deed[0] == "late":
        if deed[1] < len(late):
            page = late[deed[1]]
            late = tuple(name for at, name in enumerate(late) if at != deed[1])
            world.shown = page if deed[2] else world.shown
            world.events.append(("late", page, deed[2]))
    elif deed[0] in ("answer", "load"):
        if way is not None and (way[1] == "load") == (deed[0] == "load"):
            going, told = journey(site, rule, world, *way), deed[1]
            next(going)
    elif way is None or rule.newer != "ignore":
        if way is not None:
            world.events.append(("dropped", way[1]))
            if rule.newer == "race" and way[1] == "load":
                late = (late + (way[4][way[5]],))[-2:]
            way = None
        going = new_way(site, rule, world, deed)
    if going is not None:
        try:
            way = going.send(told)
        except StopIteration:
            way = None
    order = {path: at for at, path in enumerate(site.row_paths())}
    done = tuple(sorted(set(world.done), key=order.get))
    return (tuple(world.flags.values()), world.shown, world.history, world.place, way, late), tuple(world.events), done


def new_way(site, rule, world, deed):
    """The journey of a click, a back or a forward, or None."""
    history, place = world.history, world.place
    if deed[0] == "click":
        if deed[1] == history[place]:
            return None
        plan = (history[:place + 1] + (deed[1],))[-site.keep:]
        return journey(site, rule, world, "click", "leave", None, world.shown, plan, len(plan) - 1, 0)
    spot = place + {"back": -1, "forward": 1}[deed[0]]
    if spot not in range(len(history)):
        return None
    return journey(site, rule, world, "step", "leave", None, world.shown, history, spot, 0)


class Way:
    """What a second judge remembers of the way that is under way, if there is one."""

    def __init__(self, rule, way):
        self.kind = None
        self.guarded = False
        if way is not None:
            self.kind = way[0]
            self.guarded = way[1] == "load" and (way[0] == "click" or rule.backs or way[6] > 0)

    def note(self, event):
        """Takes an event into account."""
        if event[0] in ("asked", "guard") and event[2] == "enter":
            self.guarded = True
        if event[0] == "led":
            self.guarded = False

    def begin(self, rule, made):
        """Takes into account that the deed may begin a way."""
        if made.deed[0] in ("click", "back", "forward") and (made.before[4] is None or rule.newer != "ignore"):
            self.kind = "click" if made.deed[0] == "click" else "step"
            self.guarded = False


def second_faults(site, rule, made, way):
    """The faults; way remembers what was done in the earlier deeds."""
    found = set()
    flags, shown, history, place, under_way, late = made.after
    elder, older = made.before[1], made.before[2]
    if under_way is None:
        if shown != history[place]:
            found.add(("apart", shown))
        found.update(("doubled", one) for one, other in zip(history, history[1:]) if one == other)
    way.begin(rule, made)
    for event in made.events:
        way.note(event)
        if event[0] == "shown" and site.guard(event[1], "enter") != () and not way.guarded:
            found.add(("unasked", event[1]))
        if event[0] == "late" and event[2]:
            found.add(("late", event[1]))
        if event[0] == "shown" or event[0] == "late" and event[2]:
            if not lets(site, event[1], "enter", flags):
                found.add(("barred", event[1]))
            if event[1] != elder and not lets(site, elder, "leave", flags):
                found.add(("passed", elder))
        if event[0] == "turned":
            if rule.lead == "instead" and way.kind == "step":
                entries = zip(older[event[2]:event[2] + 1], event[1][event[2]:])
                found.update(("written", one) for one, other in entries if one != other)
            older = event[1]
    names = site.page_names()
    return sorted(found, key=lambda pair: (KINDS.index(pair[0]), names.index(pair[1])))


def any_way(source, site):
    """A way that is built from any parts that fit in some place; most are no ways of a standing."""
    names = site.page_names()
    positions = [()] + [path[2] for path in site.row_paths() if site.row_at(path)[0] == "ask"]
    plan = tuple(source.choice(names) for _ in range(source.randint(1, site.keep)))
    stage = source.choice(("leave", "enter", "anew", "load"))
    kind = source.choice(("click", "step"))
    return (kind, stage, source.choice(positions), source.choice(names), plan, source.randrange(len(plan)), source.randint(0, 5))


def any_standing(source, site, rule):
    """A standing that probably no deeds lead to."""
    names = site.page_names()
    while True:
        history = tuple(source.choice(names) for _ in range(source.randint(1, site.keep)))
        late = tuple(source.choice(names) for _ in range(source.randint(0, 2) if rule.newer == "race" else 0))
        way = source.choice((None, any_way(source, site), any_way(source, site), any_way(source, site)))
        flags = source.choice(all_flags(site))
        value = (flags, source.choice(names), history, source.randrange(len(history)), way, late)
        if is_standing(site, rule, value):
            return value


class TestAgainstTheSecondRouter(unittest.TestCase):
    def assert_same_step(self, site, rule, standing, deed):
        """Both routers do the same; returns the Step or None."""
        try:
            expected = second_step(site, rule, standing, deed)
        except Sixth as sixth:
            with self.assertRaises(TooManyLeads) as caught:
                step(site, rule, standing, deed)
            self.assertEqual(caught.exception.page, sixth.args[0])
            return None
        made = step(site, rule, standing, deed)
        self.assertTrue(same((made.after, made.events, made.done), expected), (site.pages, str(rule), standing, deed))
        self.assertTrue(same((made.before, made.deed), (standing, deed)))
        self.assertIs(is_standing(site, rule, made.after), True)
        return made

    def test_deeds_from_a_start(self):
        source = random.Random(5)
        seen = {}
        for rule in all_rules():
            for _ in range(6):
                site = made_site(source)
                known = deeds(site)
                now, way = begin(site, rule, source.choice(all_flags(site))).after, Way(rule, None)
                for _ in range(40):
                    made = self.assert_same_step(site, rule, now, made_deed(source, now, known))
                    if made is None:
                        seen["round"] = True
                        continue
                    found = faults(site, rule, made)
                    self.assertTrue(same(found, second_faults(site, rule, made, way)), (site.pages, str(rule), vars(made)))
                    seen.update({kind: True for kind, page in found})
                    now = made.after
        # Otherwise the sites above would not say much.
        self.assertEqual(sorted(seen), sorted(KINDS))

    def test_deeds_from_any_standing(self):
        source = random.Random(6)
        for rule in all_rules():
            for _ in range(25):
                site = made_site(source)
                standing = any_standing(source, site, rule)
                for deed in deeds(site):
                    made = self.assert_same_step(site, rule, standing, deed)
                    if made is not None:
                        self.assertTrue(same(faults(site, rule, made), second_faults(site, rule, made, Way(rule, standing[4]))))

    def test_sites_of_the_greatest_size(self):
        source = random.Random(7)
        names = ("a", "b", "c", "d", "e")
        for rule in all_rules()[::5]:
            pages = made_site(source, most_rows=8).pages
            pages = pages + tuple((name, ((), (), True)) for name in names)[:5 - len(pages)]
            site = Site(("in", "out", "c"), pages, pages[-1][0])
            now = begin(site, rule, (True, False, True)).after
            for _ in range(60):
                made = self.assert_same_step(site, rule, now, made_deed(source, now, deeds(site)))
                now = now if made is None else made.after
