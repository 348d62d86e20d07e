"""Memory: grounds, kept by their keys as long as they hold."""

from namewell.names import above
from namewell.rows import DOWN, ELSE
from namewell.told import DOOR, NONE, ROWS

# The first words of keys.
ASKED_KEY = "asked"
NAME_KEY = "name"
CUT_KEY = "cut"


def key_of(ground):
    reply = ground[5]
    if reply[0] == DOWN:
        return (CUT_KEY, reply[1])
    if reply[0] == ELSE or reply[0] == NONE:
        return (NAME_KEY, ground[3])
    return (ASKED_KEY, ground[3], ground[4])


# The lists within a ground belong to whom it is handed.
def copied(ground):
    reply = [list(part) if isinstance(part, list) else part for part in ground[5]]
    return ground[:5] + (tuple(reply),)


# The doors that a ground tells, by which a door may be found.
def doors_in(ground):
    reply = ground[5]
    return reply[3] if reply[0] == DOWN else reply[1]


class Memory:
    def __init__(self):
        # by its key, of each ground: itself, the keys on which it rests, its last turn, its number
        self.entries = {}
        self.numbered = 0
        # no ground's last turn lies ahead of this one; None where nothing was kept
        self.soonest = None

    def keep(self, ground, rests):
        turn = ground[0]
        key = key_of(ground)
        lasts = [self.until(rest, turn) for rest in rests]
        if None in lasts or self.until(key, turn) is not None:
            return
        last = min([turn + ground[5][-1]] + lasts)
        self.numbered += 1
        self.entries[key] = (copied(ground), list(rests), last, self.numbered)
        self.soonest = last if self.soonest is None else min(self.soonest, last)

    def until(self, key, turn):
        if key not in self.entries or self.entries[key][2] < turn:
            return None
        return self.entries[key][2]

    def known(self, N, K, turn):
        found = self.first_of([(ASKED_KEY, N, K), (NAME_KEY, N)], turn)
        if found is not None:
            return found
        wider = [(NAME_KEY, name) for name in reversed(above(N)[:-1])]
        return self.first_of([key for key in wider if self.says_none(key)], turn)

    def says_none(self, key):
        return key in self.entries and self.entries[key][0][5][0] == NONE

    def handed(self, N, turn):
        return self.first_of([(CUT_KEY, name) for name in reversed(above(N))], turn)

    # Of which top a name is to be asked about.
    def top_for(self, name, turn):
        handed = self.handed(name, turn)
        return () if handed is None else handed[5][1]

    # The grounds by which the door behind a cut is found, the last of them telling it; none where it is not.
    def entrance(self, down, turn):
        if doors_in(down) != []:
            return [down]
        way = self.way_to_rows(down[5][2], DOOR, turn)
        return [down] + way if way != [] else []

    def way_to_rows(self, name, kind, turn):
        way = []
        met = {}
        while name not in met:
            met[name] = True
            found = self.known(name, kind, turn)
            if found is None:
                return []
            way.append(found)
            if found[5][0] != ELSE:
                return way if found[5][0] == ROWS else []
            name = found[5][1]
        return []

    def first_of(self, keys, turn):
        for key in keys:
            if self.until(key, turn) is not None:
                return copied(self.entries[key][0])
        return None

    def forget(self, turn):
        # mostly there is nothing to let go, and very much to look through
        if self.soonest is None or turn <= self.soonest:
            return 0
        gone = [key for key in self.entries if self.until(key, turn) is None]
        for key in gone:
            self.entries.pop(key)
        self.soonest = min([entry[2] for entry in self.entries.values()], default=None)
        return len(gone)

    def clear(self):
        self.entries = {}
        self.soonest = None

    def many(self):
        return len(self.entries)

    def grounds(self, keys):
        reached = {}
        ahead = list(keys)
        while ahead != []:
            key = ahead.pop()
            if key not in reached:
                reached[key] = True
                ahead.extend(self.entries[key][1])
        return [copied(self.entries[key][0]) for key in sorted(reached, key=self.number_of)]

    def number_of(self, key):
        return self.entries[key][3]
