"""Houses: the zones they keep behind their doors, and what they tell when they are asked."""

from namewell.names import above
from namewell.rows import ELSE
from namewell.told import Page

AWAY = "away"


def kept(houses, door, T):
    return house_at(houses, door).zone(T)


def nearest(houses, door, N):
    house = house_at(houses, door)
    return house.zone(house.nearest_top(N))


def asked(houses, door, T, N, K):
    return house_at(houses, door).speak(T, N, K)


# Behind a door without a house is as much as behind one whose house keeps no zone.
def house_at(houses, door):
    return House(houses.get(door, []))


# The list within a zone belongs to whom it is handed.
def copied_zone(zone):
    return (zone[0], zone[1], list(zone[2]))


# The zones of one house by their tops, each laid out only when it is asked of.
class House:
    def __init__(self, zones):
        self.zones = dict([(zone[0], zone) for zone in zones])
        self.pages = {}
        # By names that are only other names, what is told of them, with its top: the same for each kind, and
        # told again and again where many of them lie behind one another.
        self.turned = {}

    def take(self, zone):
        self.zones[zone[0]] = zone
        self.let_go(zone[0])

    def give_up(self, top):
        self.zones.pop(top)
        self.let_go(top)

    def let_go(self, top):
        self.pages.pop(top, None)
        self.turned = {}

    def zone(self, top):
        return copied_zone(self.zones[top]) if top in self.zones else None

    def nearest_top(self, name):
        tops = [top for top in above(name) if top in self.zones]
        return tops[-1] if tops != [] else None

    def page(self, top):
        if top in self.zones and top not in self.pages:
            self.pages[top] = Page(self.zones[top])
        return self.pages.get(top)

    def speak(self, top, name, kind):
        reply = self.reply(top, name, kind)
        return (reply, self.beside(reply, name, kind))

    def reply(self, top, name, kind):
        page = self.page(top)
        return (AWAY,) if page is None else page.reply(name, kind)

    def beside(self, reply, name, kind):
        others = []
        spoken_of = {name: True}
        while reply[0] == ELSE and reply[1] not in spoken_of:
            other = reply[1]
            spoken_of[other] = True
            told = self.turned[other] if other in self.turned else self.nearby(other, kind)
            reply = told[1]
            if reply[0] != AWAY:
                others.append((told[0], other, kind, reply))
        return others

    # What the zone with the longest top tells of a name, with that top; away where there is none.
    def nearby(self, name, kind):
        top = self.nearest_top(name)
        told = (top, self.reply(top, name, kind))
        if told[1][0] == ELSE:
            self.turned[name] = told
        return told
