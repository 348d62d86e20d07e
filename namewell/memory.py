"""Memory: grounds, kept by their keys as long as they hold."""

from namewell.names import above
from namewell.rows import DOWN, ELSE
from namewell.told import NONE

# The first words of keys.
ASKED_KEY = "asked"
NAME_KEY = "name"
CUT_KEY = "cut"


def key_of(ground):
    reply = ground[5]
    if reply[0] == DOWN:
        return (CUT_KEY, reply[1])
    if reply[0] == ELSE or reply[0] == NONE:
        return (NAME_KEY, ground[3])
    return (ASKED_KEY, ground[3], ground[4])


# The lists within a ground belong to whom it is handed.
def copied(ground):
    reply = [list(part) if isinstance(part, list) else part for part in ground[5]]
    return ground[:5] + (tuple(reply),)


class Memory:
    def __init__(self):
        # by its key, of each ground: itself, the keys on which it rests, its last turn, its number
        self.entries = {}
        self.numbered = 0

    def keep(self, ground, rests):
        turn = ground[0]
        key = key_of(ground)
        lasts = [self.until(rest, turn) for rest in rests]
        if None in lasts or self.until(key, turn) is not None:
            return
        life = ground[5][-1]
        self.numbered += 1
        self.entries[key] = (copied(ground), list(rests), min([turn + life] + lasts), self.numbered)

    def until(self, key, turn):
        if key not in self.entries or self.entries[key][2] < turn:
            return None
        return self.entries[key][2]

    def known(self, N, K, turn):
        found = self.first_of([(ASKED_KEY, N, K), (NAME_KEY, N)], turn)
        if found is not None:
            return found
        wider = [(NAME_KEY, name) for name in reversed(above(N)[:-1])]
        return self.first_of([key for key in wider if self.says_none(key)], turn)

    def says_none(self, key):
        return key in self.entries and self.entries[key][0][5][0] == NONE

    def handed(self, N, turn):
        return self.first_of([(CUT_KEY, name) for name in reversed(above(N))], turn)

    def first_of(self, keys, turn):
        for key in keys:
            if self.until(key, turn) is not None:
                return copied(self.entries[key][0])
        return None

    def forget(self, turn):
        gone = [key for key in self.entries if self.until(key, turn) is None]
        for key in gone:
            self.entries.pop(key)
        return len(gone)

    def clear(self):
        self.entries = {}

    def many(self):
        return len(self.entries)

    def grounds(self, keys):
        reached = {}
        ahead = list(keys)
        while ahead != []:
            key = ahead.pop()
            if key not in reached:
                reached[key] = True
                ahead.extend(self.entries[key][1])
        return [copied(self.entries[key][0]) for key in sorted(reached, key=self.number_of)]

    def number_of(self, key):
        return self.entries[key][3]
