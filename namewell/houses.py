"""Houses: the zones they keep behind their doors, and what they tell when they are asked."""

from namewell.names import above
from namewell.rows import ELSE
from namewell.told import Page

AWAY = "away"


def kept(houses, door, T):
    return house_at(houses, door).zone(T)


def nearest(houses, door, N):
    house = house_at(houses, door)
    return house.zone(house.nearest_top(N))


def asked(houses, door, T, N, K):
    house = house_at(houses, door)
    reply = house.reply(T, N, K)
    return (reply, house.beside(reply, N, K))


# Behind a door without a house is as much as behind one whose house keeps no zone.
def house_at(houses, door):
    return House(houses.get(door, []))


# The zones of one house by their tops, each laid out only when it is asked of.
class House:
    def __init__(self, zones):
        self.zones = dict([(zone[0], zone) for zone in zones])
        self.pages = {}

    def zone(self, top):
        if top not in self.zones:
            return None
        found = self.zones[top]
        return (found[0], found[1], list(found[2]))

    def nearest_top(self, name):
        tops = [top for top in above(name) if top in self.zones]
        return tops[-1] if tops != [] else None

    def page(self, top):
        if top in self.zones and top not in self.pages:
            self.pages[top] = Page(self.zones[top])
        return self.pages.get(top)

    def reply(self, top, name, kind):
        page = self.page(top)
        return (AWAY,) if page is None else page.reply(name, kind)

    def beside(self, reply, name, kind):
        others = []
        spoken_of = {name: True}
        while reply[0] == ELSE and reply[1] not in spoken_of:
            other = reply[1]
            top = self.nearest_top(other)
            if top is None:
                break
            reply = self.reply(top, other, kind)
            others.append((top, other, kind, reply))
            spoken_of[other] = True
        return others
