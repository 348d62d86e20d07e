"""What several tests need: zones and houses, written or by chance, and the lists within an answer."""

import copy
import inspect
import random

from namewell.memory import key_of
from namewell.world import World
from namewell.zones import read_zone

WORDS = ("a", "b", "c")
KINDS = ("door", "text", "seal")


def name(text):
    """a.b for ("b", "a"), as names are written, but the last point left out"""
    return tuple(reversed(text.split("."))) if text else ()


def house(*texts):
    return [read_zone(text) for text in texts]


def arguments(function):
    return [one for one in inspect.signature(function).parameters if one != "self"]


def lists_in(thing):
    """all lists and dicts within an answer, itself among them"""
    if isinstance(thing, dict):
        return [thing] + [one for pair in thing.items() for part in pair for one in lists_in(part)]
    if isinstance(thing, (list, tuple)):
        within = [one for part in thing for one in lists_in(part)]
        return within + [thing] if isinstance(thing, list) else within
    return []


def spoil(thing):
    """changes all lists within an answer, as its owner may"""
    for one in lists_in(thing):
        one.clear()
        if isinstance(one, list):
            one.append("spoilt")


def own_lists(case, ask, many):
    """looks whether the many lists of an answer are new ones and the asker's own; ask asks the same each time"""
    first = ask()
    second = ask()
    expected = copy.deepcopy(first)
    within = lists_in(first)
    case.assertEqual(len(within), many)
    case.assertEqual(len({id(one) for one in within}), many)
    spoil(first)
    case.assertEqual(second, expected)
    case.assertEqual(ask(), expected)


def some_name(source, most=4):
    return tuple(source.choices(WORDS, k=source.randint(0, most)))


def some_rows(source, top, many):
    """rows that keep to (a) to (d) of [10]"""
    full = {}
    for step in range(many):
        place = top + some_name(source, 3)
        deed = source.randint(0, 9)
        if deed < 3:
            place += ("*",)
        if deed in (0, 5) and place not in full:
            full[place] = [("else", some_name(source))]
        elif deed == 6 and place != top and place not in full:
            full[place] = [("down", some_name(source))]
        elif deed in (1, 2, 7, 8, 9):
            pair = (source.choice(KINDS), source.choice(("d0", "d1", "d2", "v")))
            here = full.setdefault(place, [])
            if pair not in here and "else" not in [one[0] for one in here]:
                here.append(pair)
    rows = [(place, source.randint(0, 9)) + pair for place in full for pair in full[place]]
    source.shuffle(rows)
    return rows


def some_zone(source):
    top = some_name(source, 2)
    return (top, source.randint(0, 9), some_rows(source, top, source.randint(0, 10)))


def some_place(source, zone):
    """a name in a zone: mostly one at or beneath a row's name, the star being any word"""
    if not zone[2] or not source.randint(0, 3):
        return zone[0] + some_name(source, 2)
    place = source.choice(zone[2])[0]
    if place[-1:] == ("*",):
        place = place[:-1] + (source.choice(WORDS),)
    return place + some_name(source, source.randint(0, 1))


def put_row(zones, top, row):
    """puts a row into the zone of a top, in the place of those that could not stand beside it"""
    rows = [one for one in zones[top] if one[0] != row[0] or one[2:] != row[2:]]
    if row[2] == "else":
        rows = [one for one in rows if one[0] != row[0]]
    apart = ("else", "down") if row[2] == "down" else ("else",)
    zones[top] = [one for one in rows if one[0] != row[0] or one[2] not in apart] + [row]


def link(source, zones, doors, top):
    """a down row at the top in the zone next above; mostly a door row, or another name with one, for the house"""
    parent = max([one for one in zones if one != top and top[:len(one)] == one], key=len)
    place = source.choice((parent, source.choice(sorted(zones))))
    house = (top if place == parent else place) + some_name(source, 1)
    named = [row[3] for one in sorted(zones) for row in zones[one] if row[2] == "down"]
    if named and source.randint(0, 3) == 0:
        # several cuts may name one house
        put_row(zones, parent, (top, source.randint(0, 9), "down", source.choice(named)))
        return
    put_row(zones, parent, (top, source.randint(0, 9), "down", house))
    if source.randint(0, 3) == 0:
        place = source.choice(sorted(zones))
        other = place + (source.choice(WORDS),)
        wide = max([one for one in zones if house[:len(one)] == one], key=len)
        put_row(zones, wide, (house, source.randint(0, 9), "else", other))
        house = other
    if source.randint(0, 9):
        put_row(zones, place, (house, source.randint(0, 9), "door", doors[top]))


def some_houses(source):
    """houses with the root's door r, whose zones are mostly the ones that the down rows speak of"""
    tops = {()} | {some_name(source, 3) for step in range(source.randint(0, 9))}
    doors = {top: source.choice(("r", "d0", "d1", "d2")) for top in sorted(tops)}
    doors[()] = "r"
    zones = {top: some_rows(source, top, source.randint(0, 3)) for top in sorted(tops)}
    linked = sorted(tops - {()})
    source.shuffle(linked)
    for top in linked:
        if source.randint(0, 9):
            link(source, zones, doors, top)
    for step in range(source.randint(0, 3)):
        top = source.choice(sorted(tops))
        place = top + (source.choice(WORDS),)
        if place not in tops:
            other = source.choice(sorted(tops)) + some_name(source, 1)
            put_row(zones, top, (place, source.randint(0, 9), "else", other))
    houses = {}
    for top in sorted(tops):
        if source.randint(0, 19):
            houses.setdefault(doors[top], []).append((top, source.randint(0, 9), zones[top]))
    return houses


def world_of(houses, root="r"):
    """a world in which these zones were put, one by one"""
    world = World(root)
    for door in houses:
        for zone in houses[door]:
            world.put(door, zone)
    return world


def worlds_by_chance(many):
    """a source of chance, houses and a world with them, as often as told"""
    for seed in range(many):
        source = random.Random(seed)
        houses = some_houses(source)
        yield source, houses, world_of(houses)


def some_other_zone(source, zone, tops):
    """a zone like this one, but a row or two"""
    rows = {zone[0]: list(zone[2])}
    if rows[zone[0]] and source.randint(0, 2):
        rows[zone[0]].remove(source.choice(rows[zone[0]]))
    for row in some_rows(source, zone[0], source.randint(0, 2)):
        put_row(rows, zone[0], row)
    beneath = [top for top in tops if len(top) > len(zone[0]) and top[:len(zone[0])] == zone[0]]
    if beneath and source.randint(0, 1):
        cut = source.choice(beneath)
        house = source.choice((cut, source.choice(tops))) + some_name(source, 1)
        put_row(rows, zone[0], (cut, source.randint(0, 9), "down", house))
        if house[:len(zone[0])] == zone[0]:
            put_row(rows, zone[0], (house, source.randint(0, 9), "door", source.choice(("r", "d0", "d1", "d2"))))
    return (zone[0], source.randint(0, 9), rows[zone[0]])


def some_change(source, world, first):
    """one zone of the world dropped, put behind another door or put otherwise, or put as it was at first"""
    places = sorted([(door, zone) for door, zones in world.houses().items() for zone in zones])
    before = sorted([(door, zone) for door, zones in first.items() for zone in zones])
    deed = source.randint(0, 9)
    if before and (deed > 5 or not places):
        world.put(*source.choice(before))
    elif not places:
        world.put("r", ((), source.randint(0, 9), some_rows(source, (), 5)))
    elif deed == 0:
        door, zone = source.choice(places)
        world.drop(door, zone[0])
    elif deed == 1:
        world.put(source.choice(("r", "d0", "d1", "d2")), source.choice(places)[1])
    else:
        door, zone = source.choice(places)
        world.put(door, some_other_zone(source, zone, sorted({one[0] for place, one in places})))


def some_question(source, world):
    """a name and a kind, mostly of a name that a zone of the world speaks of"""
    zones = [zone for zones in world.houses().values() for zone in zones]
    question = some_place(source, source.choice(zones)) if zones and source.randint(0, 9) else some_name(source)
    return (question, source.choice(KINDS))


class PlainMemory:
    """[25] to [28], word by word: all that was ever kept, the newest last"""

    def __init__(self):
        self.all = []

    def holding(self, key, turn):
        found = [one for one in self.all if one[0] == key and one[3] >= turn]
        return found[0] if found else None

    def keep(self, given, rests):
        turn = given[0]
        key = key_of(given)
        under = [self.holding(rest, turn) for rest in rests]
        if self.holding(key, turn) or None in under:
            return
        until = min([turn + given[5][-1]] + [one[3] for one in under])
        self.all = [one for one in self.all if one[0] != key]
        self.all.append((key, copy.deepcopy(given), list(rests), until))

    def known(self, question, kind, turn):
        for key in (("asked", question, kind), ("name", question)):
            if self.holding(key, turn):
                return self.holding(key, turn)[1]
        found = [one for one in self.all if one[3] >= turn and one[0][0] == "name" and one[1][5][0] == "none"]
        wider = [one for one in found if len(one[0][1]) < len(question) and question[:len(one[0][1])] == one[0][1]]
        return max(wider, key=lambda one: len(one[0][1]))[1] if wider else None

    def handed(self, question, turn):
        found = [one for one in self.all if one[3] >= turn and one[0][0] == "cut"]
        wider = [one for one in found if question[:len(one[0][1])] == one[0][1]]
        return max(wider, key=lambda one: len(one[0][1]))[1] if wider else None

    def until(self, key, turn):
        found = self.holding(key, turn)
        return found[3] if found else None

    def forget(self, turn):
        many = len(self.all)
        self.all = [one for one in self.all if one[3] >= turn]
        return many - len(self.all)

    def clear(self):
        self.all = []

    def many(self):
        return len(self.all)

    def grounds(self, keys):
        reached = set(keys)
        for step in self.all:
            for one in self.all:
                if one[0] in reached:
                    reached |= set(one[2])
        return [one[1] for one in self.all if one[0] in reached]
