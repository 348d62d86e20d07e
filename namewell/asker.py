"""The asker: goes from house to house for an answer, and tells the grounds on which it rests."""

from namewell.houses import AWAY
from namewell.memory import Memory, doors_in, key_of
from namewell.rows import ELSE
from namewell.told import DOOR, ROWS
from namewell.tree import ASKED, LOST, RING


class Asker:
    def __init__(self, world, remembers=True):
        self.world = world
        self.remembers = remembers
        self.memory = Memory()

    def ask(self, N, K):
        if self.remembers:
            self.memory.forget(self.world.turn())
        else:
            self.memory.clear()
        walk = Walk(self.world, self.memory, N, K)
        answer = walk.go_on()
        while answer is None:
            answer = walk.go_on()
        return answer

    def clear(self):
        self.memory.clear()


# The way of one question. What is known of a name stays as it is on the way: grounds are only kept where
# nothing was known, and the turn stands still.
class Walk:
    def __init__(self, world, memory, name, kind):
        self.world = world
        self.memory = memory
        self.now = world.turn()
        self.waits = [(ASKED, name, kind)]
        # the names and kinds of the waits
        self.met = {(name, kind): True}
        # for each of the waits but the last, the key of the ground by which it led on
        self.led_by = []
        # where in the waits a door stands
        self.door_places = []
        self.askings = []

    # One step on the way: an answer, or None where it goes on.
    def go_on(self):
        name = self.waits[-1][1]
        kind = self.waits[-1][2]
        known = self.memory.known(name, kind, self.now)
        if known is None:
            return self.look_for_house(name)
        reply = known[5]
        if reply[0] == ELSE:
            return self.wait_for(ELSE, reply[1], kind, known)
        if self.door_places == []:
            return self.answer(reply[0], reply[1] if reply[0] == ROWS else [])
        if reply[0] != ROWS:
            return self.answer(LOST, [])
        self.leave_door()
        return None

    def wait_for(self, why, name, kind, ground):
        if why == DOOR:
            self.door_places.append(len(self.waits))
        self.waits.append((why, name, kind))
        self.led_by.append(key_of(ground))
        if (name, kind) in self.met:
            return self.answer(RING, [])
        self.met[(name, kind)] = True
        return None

    def leave_door(self):
        place = self.door_places.pop()
        while len(self.waits) > place:
            self.met.pop(self.waits.pop()[1:])
            self.led_by.pop()

    def look_for_house(self, name):
        handed = self.memory.handed(name, self.now)
        if handed is None:
            return self.ask_house(self.world.root(), (), [])
        found = self.memory.entrance(handed, self.now)
        if found == []:
            return self.wait_for(DOOR, handed[5][2], DOOR, handed)
        return self.ask_house(doors_in(found[-1])[0], handed[5][1], [key_of(ground) for ground in found])

    def ask_house(self, door, top, rests):
        name = self.waits[-1][1]
        kind = self.waits[-1][2]
        told = self.world.ask(door, top, name, kind)
        self.askings.append((door, top, name, kind))
        reply = told[0]
        ground = (self.now, door, top, name, kind, reply)
        if reply[0] == AWAY:
            return self.answer_away(ground, rests)
        self.memory.keep(ground, rests)
        for other in told[1]:
            if other[0] == top and self.would_ask(other):
                self.memory.keep((self.now, door) + other, rests)
        return None

    # Whether what is told beside comes of the top that would be asked about it.
    def would_ask(self, other):
        if self.memory.known(other[1], other[2], self.now) is not None:
            return False
        return self.memory.top_for(other[1], self.now) == other[0]

    def answer(self, word, values):
        # in a ring it is mostly an else, by which the same question led on before
        known = self.memory.known(self.waits[-1][1], self.waits[-1][2], self.now)
        last = [] if known is None else [key_of(known)]
        return (word, values, self.waits, self.memory.grounds(self.led_by + last), self.askings)

    def answer_away(self, ground, rests):
        grounds = self.memory.grounds(self.led_by + rests) + [ground]
        return (LOST, [], self.waits, grounds, self.askings)
