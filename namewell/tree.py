"""The whole tree: which names have a door, and the truth about a question."""

from namewell.houses import AWAY, House
from namewell.names import above
from namewell.rows import DOWN, ELSE
from namewell.told import DOOR, ROWS

# The words of those outcomes that are no replies.
LOST = "lost"
RING = "ring"

# Why the first question of the waits is there.
ASKED = "asked"


def charges(houses, root):
    tree = Tree(houses, root)
    names = [()]
    while names != []:
        cuts = tree.cuts_at(names.pop())
        names.extend([cut for cut in cuts if tree.has_door(cut)])
    return list(tree.doors.items())


def truth(houses, root, N, K):
    tree = Tree(houses, root)
    waits = [(ASKED, N, K)]
    met = {(N, K): True}
    reply = tree.reply(N, K)
    step = step_behind(reply, K)
    while step is not None:
        question = step[1:]
        waits.append(step)
        if question in met:
            return (RING, [], waits)
        met[question] = True
        reply = tree.reply(question[0], question[1])
        step = step_behind(reply, question[1])
    word = word_of(waits, reply)
    return (word, reply[1] if word == ROWS else [], waits)


def step_behind(reply, kind):
    if reply[0] == ELSE:
        return (ELSE, reply[1], kind)
    if reply[0] == DOWN:
        return (DOOR, reply[2], DOOR)
    return None


def word_of(waits, reply):
    if reply[0] == AWAY or DOOR in [wait[0] for wait in waits]:
        return LOST
    return reply[0]


# The names that have a door, looked for only as far as a question needs them: there may be very many.
class Tree:
    def __init__(self, houses, root):
        self.street = houses
        self.laid = {}
        self.doors = {(): root}
        # By names, the door to which the name and the kind `door` lead; None from the first look on until
        # they do, so that what comes back to itself is seen to lead to none.
        self.leads = {}

    def house(self, door):
        if door not in self.laid:
            self.laid[door] = House(self.street.get(door, []))
        return self.laid[door]

    def cuts_at(self, name):
        page = self.house(self.doors[name]).page(name)
        return [] if page is None else page.own_cuts()

    def has_door(self, cut):
        # a full reply about the cut has looked for its door
        self.reply(cut, DOOR)
        return cut in self.doors

    def reply(self, name, kind):
        reply = self.reply_so_far(name, kind)
        while reply[0] == DOWN and self.finds_door(reply[1], reply[2]):
            reply = self.reply_so_far(name, kind)
        return reply

    # By the doors that are found already, and those that are told. Other doors can change no reply but
    # down: where there is none, no cut lies between the longest name with a door and the name.
    def reply_so_far(self, name, kind):
        top = [wider for wider in above(name) if wider in self.doors][-1]
        reply = self.house(self.doors[top]).reply(top, name, kind)
        while reply[0] == DOWN and reply[3] != []:
            top = reply[1]
            self.doors[top] = reply[3][0]
            reply = self.house(self.doors[top]).reply(top, name, kind)
        return reply

    # The chain holds a pair (cut, name) for each name that is waited for: the cut whose house it is, or
    # None where it is another name for the one ahead. Each waits for the next alone, so where the last
    # leads to no door, none of them does.
    def finds_door(self, cut, house):
        chain = []
        leads_on = self.enters(chain, cut, house)
        while leads_on and chain != []:
            leads_on = self.follows(chain)
        return cut in self.doors

    def follows(self, chain):
        reply = self.reply_so_far(chain[-1][1], DOOR)
        if reply[0] == ROWS:
            self.settle(chain, reply[1][0])
            return True
        if reply[0] == ELSE:
            return self.enters(chain, None, reply[1])
        if reply[0] == DOWN:
            return self.enters(chain, reply[1], reply[2])
        return False

    def enters(self, chain, cut, name):
        chain.append((cut, name))
        if name not in self.leads:
            self.leads[name] = None
            return True
        if self.leads[name] is None:
            return False
        self.settle(chain, self.leads[name])
        return True

    def settle(self, chain, door):
        cut = None
        while cut is None:
            step = chain.pop()
            self.leads[step[1]] = door
            cut = step[0]
        self.doors[cut] = door
