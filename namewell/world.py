"""The world: houses that change from turn to turn, and how often they were asked."""

from namewell.errors import NoZone
from namewell.houses import House, copied_zone


class World:
    def __init__(self, root):
        self.root_door = root
        self.now = 0
        self.times_asked = 0
        # by their doors, the houses that keep a zone
        self.street = {}

    def root(self):
        return self.root_door

    def turn(self):
        return self.now

    def asks(self):
        return self.times_asked

    def houses(self):
        return dict([(door, self.zones_at(door)) for door in self.street])

    def zones_at(self, door):
        house = self.street[door]
        return [house.zone(top) for top in house.zones]

    def put(self, door, zone):
        self.street.setdefault(door, House([])).take(copied_zone(zone))
        self.now += 1

    def drop(self, door, T):
        if door not in self.street or T not in self.street[door].zones:
            raise NoZone("there is no such zone to be dropped")
        self.street[door].give_up(T)
        if self.street[door].zones == {}:
            self.street.pop(door)
        self.now += 1

    def wait(self, turns):
        self.now += turns

    def ask(self, door, T, N, K):
        self.times_asked += 1
        return self.street.get(door, House([])).speak(T, N, K)
