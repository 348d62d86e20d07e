"""What several tests need: zones and houses, written or by chance, and the lists within an answer."""

import copy
import inspect

from namewell.zones import read_zone

WORDS = ("a", "b", "c")
KINDS = ("door", "text", "seal")


def name(text):
    """a.b for ("b", "a"), as names are written, but the last point left out"""
    return tuple(reversed(text.split("."))) if text else ()


def house(*texts):
    return [read_zone(text) for text in texts]


def arguments(function):
    return [one for one in inspect.signature(function).parameters if one != "self"]


def lists_in(thing):
    """all lists and dicts within an answer, itself among them"""
    if isinstance(thing, dict):
        return [thing] + [one for pair in thing.items() for part in pair for one in lists_in(part)]
    if isinstance(thing, (list, tuple)):
        within = [one for part in thing for one in lists_in(part)]
        return within + [thing] if isinstance(thing, list) else within
    return []


def spoil(thing):
    """changes all lists within an answer, as its owner may"""
    for one in lists_in(thing):
        one.clear()
        if isinstance(one, list):
            one.append("spoilt")


def own_lists(case, ask, many):
    """looks whether the many lists of an answer are new ones and the asker's own; ask asks the same each time"""
    first = ask()
    second = ask()
    expected = copy.deepcopy(first)
    within = lists_in(first)
    case.assertEqual(len(within), many)
    case.assertEqual(len({id(one) for one in within}), many)
    spoil(first)
    case.assertEqual(second, expected)
    case.assertEqual(ask(), expected)


def some_name(source, most=4):
    return tuple(source.choices(WORDS, k=source.randint(0, most)))


def some_rows(source, top, many):
    """rows that keep to (a) to (d) of [10]"""
    full = {}
    for step in range(many):
        place = top + some_name(source, 3)
        deed = source.randint(0, 9)
        if deed < 3:
            place += ("*",)
        if deed in (0, 5) and place not in full:
            full[place] = [("else", some_name(source))]
        elif deed == 6 and place != top and place not in full:
            full[place] = [("down", some_name(source))]
        elif deed in (1, 2, 7, 8, 9):
            pair = (source.choice(KINDS), source.choice(("d0", "d1", "d2", "v")))
            here = full.setdefault(place, [])
            if pair not in here and "else" not in [one[0] for one in here]:
                here.append(pair)
    rows = [(place, source.randint(0, 9)) + pair for place in full for pair in full[place]]
    source.shuffle(rows)
    return rows


def some_zone(source):
    top = some_name(source, 2)
    return (top, source.randint(0, 9), some_rows(source, top, source.randint(0, 10)))


def some_place(source, zone):
    """a name in a zone: mostly one at or beneath a row's name, the star being any word"""
    if not zone[2] or not source.randint(0, 3):
        return zone[0] + some_name(source, 2)
    place = source.choice(zone[2])[0]
    if place[-1:] == ("*",):
        place = place[:-1] + (source.choice(WORDS),)
    return place + some_name(source, source.randint(0, 1))


def put_row(zones, top, row):
    """puts a row into the zone of a top, in the place of those that could not stand beside it"""
    rows = [one for one in zones[top] if one[0] != row[0] or one[2:] != row[2:]]
    if row[2] == "else":
        rows = [one for one in rows if one[0] != row[0]]
    apart = ("else", "down") if row[2] == "down" else ("else",)
    zones[top] = [one for one in rows if one[0] != row[0] or one[2] not in apart] + [row]


def link(source, zones, doors, top):
    """a down row at the top in the zone next above; mostly a door row, or another name with one, for the house"""
    parent = max([one for one in zones if one != top and top[:len(one)] == one], key=len)
    place = source.choice((parent, source.choice(sorted(zones))))
    house = (top if place == parent else place) + some_name(source, 1)
    named = [row[3] for one in sorted(zones) for row in zones[one] if row[2] == "down"]
    if named and source.randint(0, 3) == 0:
        # several cuts may name one house
        put_row(zones, parent, (top, source.randint(0, 9), "down", source.choice(named)))
        return
    put_row(zones, parent, (top, source.randint(0, 9), "down", house))
    if source.randint(0, 3) == 0:
        place = source.choice(sorted(zones))
        other = place + (source.choice(WORDS),)
        wide = max([one for one in zones if house[:len(one)] == one], key=len)
        put_row(zones, wide, (house, source.randint(0, 9), "else", other))
        house = other
    if source.randint(0, 9):
        put_row(zones, place, (house, source.randint(0, 9), "door", doors[top]))


def some_houses(source):
    """houses with the root's door r, whose zones are mostly the ones that the down rows speak of"""
    tops = {()} | {some_name(source, 3) for step in range(source.randint(0, 9))}
    doors = {top: source.choice(("r", "d0", "d1", "d2")) for top in sorted(tops)}
    doors[()] = "r"
    zones = {top: some_rows(source, top, source.randint(0, 3)) for top in sorted(tops)}
    linked = sorted(tops - {()})
    source.shuffle(linked)
    for top in linked:
        if source.randint(0, 9):
            link(source, zones, doors, top)
    for step in range(source.randint(0, 3)):
        top = source.choice(sorted(tops))
        place = top + (source.choice(WORDS),)
        if place not in tops:
            other = source.choice(sorted(tops)) + some_name(source, 1)
            put_row(zones, top, (place, source.randint(0, 9), "else", other))
    houses = {}
    for top in sorted(tops):
        if source.randint(0, 19):
            houses.setdefault(doors[top], []).append((top, source.randint(0, 9), zones[top]))
    return houses
