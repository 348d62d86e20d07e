import copy
import unittest

from namewell.asker import Asker
from namewell.houses import asked
from namewell.memory import key_of
from namewell.world import World
from namewell.zones import read_zone
from tests.worlds import PlainMemory, arguments, lists_in, name, own_lists, some_change, some_question, spoil, \
    worlds_by_chance


def ground(turn, door, top, text, kind, *reply):
    return (turn, door, name(top), name(text), kind, reply)


def waits_of(text, kind, *steps):
    return [("asked", name(text), kind)] + [(why, name(one), of) for why, one, of in steps]


def asks_of(*asks):
    return [(door, name(top), name(text), kind) for door, top, text, kind in asks]


class PlainAsker:
    """[30] and [31], word by word, asking the houses as they stand behind the world's back"""

    def __init__(self, world, remembers=True):
        self.world = world
        self.remembers = remembers
        self.memory = PlainMemory()
        self.events = []

    def lead(self, house_name, turn):
        """the grounds from the house's name and the kind door on to rows by what is known alone, or None"""
        way = []
        found = self.memory.known(house_name, "door", turn)
        while found is not None and found not in way and found[5][0] == "else":
            way.append(found)
            found = self.memory.known(found[5][1], "door", turn)
        return way + [found] if found is not None and found[5][0] == "rows" else None

    def ask(self, question, kind):
        turn = self.world.turn()
        self.memory.forget(turn if self.remembers else 10 ** 16)
        waits = [("asked", question, kind)]
        asks = []
        while True:
            last = waits[-1][1:]
            known = self.memory.known(last[0], last[1], turn)
            step = None
            if known is not None and known[5][0] == "else":
                step = ("else", known[5][1], last[1])
            elif known is not None:
                places = [place for place, one in enumerate(waits) if one[0] == "door"]
                if not places:
                    return self.answer(known[5][0], known[5][1] if known[5][0] == "rows" else [], waits, asks)
                if known[5][0] != "rows":
                    return self.answer("lost", [], waits, asks)
                waits = waits[:places[-1]]
                self.events.append("door gone")
            else:
                handed = self.memory.handed(last[0], turn)
                door, top, found = self.world.root(), (), []
                if handed is not None:
                    top = handed[5][1]
                    way = [] if handed[5][3] else self.lead(handed[5][2], turn)
                    if way is None:
                        step = ("door", handed[5][2], "door")
                    else:
                        found = [handed] + way
                        door = way[-1][5][1][0] if way else handed[5][3][0]
                if step is None:
                    asks.append((door, top) + last)
                    reply, beside = asked(self.world.houses(), door, top, last[0], last[1])
                    if reply == ("away",):
                        away = (turn, door, top) + last + (reply,)
                        return self.answer("lost", [], waits, asks, found, [away])
                    rests = [key_of(one) for one in found]
                    self.memory.keep((turn, door, top) + last + (reply,), rests)
                    self.keep_beside(turn, door, top, beside, rests)
            if step is not None:
                waits.append(step)
                if step[1:] in [one[1:] for one in waits[:-1]]:
                    return self.answer("ring", [], waits, asks)

    def keep_beside(self, turn, door, top, beside, rests):
        for one in beside:
            if one[0] != top:
                self.events.append("beside of another top")
            elif self.memory.known(one[1], one[2], turn) is not None:
                self.events.append("beside known already")
            else:
                handed = self.memory.handed(one[1], turn)
                if (handed is None and top == ()) or (handed is not None and handed[5][1] == top):
                    self.events.append("beside kept")
                    self.memory.keep((turn, door) + one, rests)
                else:
                    self.events.append("beside not asked of that top")

    def answer(self, word, values, waits, asks, found=(), away=()):
        turn = self.world.turn()
        keys = []
        for one, behind in zip(waits, waits[1:]):
            by = self.memory.known(one[1], one[2], turn) if behind[0] == "else" else self.memory.handed(one[1], turn)
            keys.append(key_of(by))
        known = self.memory.known(waits[-1][1], waits[-1][2], turn)
        if known is not None and known[5][0] in ("rows", "empty", "none"):
            keys.append(key_of(known))
        keys += [key_of(one) for one in found]
        return (word, values, waits, self.memory.grounds(keys) + list(away), asks)


class AskerCase(unittest.TestCase):
    def asker(self, *zones, remembers=True):
        """an asker in a world with the root r; each zone is told as its door, a blank and its text"""
        self.world = World("r")
        for text in zones:
            self.put(text)
        return Asker(self.world, remembers)

    def put(self, text):
        door, blank, zone = text.partition(" ")
        self.world.put(door, read_zone(zone))

    def answers(self, asker, text, kind, word, values, *steps, grounds=None, asks=None):
        before = self.world.asks()
        answer = asker.ask(name(text), kind)
        self.assertIs(answer.__class__, tuple)
        self.assertEqual(answer[:3], (word, values, waits_of(text, kind, *steps)))
        if grounds is not None:
            self.assertEqual(answer[3], grounds)
        if asks is not None:
            self.assertEqual(answer[4], asks_of(*asks))
        self.assertEqual(self.world.asks() - before, len(answer[4]))
        return answer


class InterfaceTest(unittest.TestCase):
    def test_arguments(self):
        self.assertEqual(arguments(Asker), ["world", "remembers"])
        self.assertEqual(arguments(Asker.ask), ["N", "K"])
        self.assertEqual(arguments(Asker.clear), [])


class HousesTest(AskerCase):
    """an asker that knows nothing yet"""

    def test_of_the_root(self):
        asker = self.asker("r zone . 9\na 5 text w\n 4 text v\nb 3 seal s")
        self.answers(asker, "a", "text", "rows", ["v", "w"], asks=[("r", "", "a", "text")],
                     grounds=[ground(1, "r", "", "a", "text", "rows", ["v", "w"], 4)])
        self.answers(asker, "b", "text", "empty", [], asks=[("r", "", "b", "text")],
                     grounds=[ground(1, "r", "", "b", "text", "empty", 9)])
        self.answers(asker, "c", "text", "none", [], asks=[("r", "", "c", "text")],
                     grounds=[ground(1, "r", "", "c", "text", "none", 9)])
        self.answers(asker, "", "text", "empty", [], asks=[("r", "", "", "text")])

    def test_doors_told_with_the_down(self):
        asker = self.asker("r zone . 9\na 8 down h.a\nh.a 7 door e\n 6 door d", "d zone a. 5\nx 4 text v",
                           "e zone a. 5\nx 4 text other")
        self.answers(asker, "x.a", "text", "rows", ["v"], asks=[("r", "", "x.a", "text"), ("d", "a", "x.a", "text")],
                     grounds=[ground(3, "r", "", "x.a", "text", "down", ("a",), name("h.a"), ["d", "e"], 6),
                              ground(3, "d", "a", "x.a", "text", "rows", ["v"], 4)])

    def test_from_cut_to_cut(self):
        asker = self.asker("r zone . 9\na 8 down a\na 7 door d", "d zone a. 5\nb 8 down b\nb 7 door e",
                           "e zone b.a. 5\nx 4 text v")
        self.answers(asker, "x.b.a", "text", "rows", ["v"], asks=[
            ("r", "", "x.b.a", "text"), ("d", "a", "x.b.a", "text"), ("e", "b.a", "x.b.a", "text")])

    def test_a_door_found_by_the_houses_name(self):
        asker = self.asker("r zone . 9\na 8 down h\nh 7 door d\n 6 door e", "d zone a. 5\nx 4 text v")
        down = ground(2, "r", "", "x.a", "text", "down", ("a",), ("h",), [], 8)
        door = ground(2, "r", "", "h", "door", "rows", ["d", "e"], 6)
        self.answers(asker, "x.a", "text", "rows", ["v"], asks=[
            ("r", "", "x.a", "text"), ("r", "", "h", "door"), ("d", "a", "x.a", "text")],
            grounds=[down, door, ground(2, "d", "a", "x.a", "text", "rows", ["v"], 4)])

    def test_a_door_found_by_other_names(self):
        asker = self.asker("r zone . 9\na 8 down h\nh 7 else i\nb 7 down b\nb 7 door e\ni 7 else j.b",
                           "e zone b. 6\nj 5 else k\nk 5 door d", "d zone a. 5\nx 4 text v")
        self.answers(asker, "x.a", "text", "rows", ["v"], asks=[
            ("r", "", "x.a", "text"), ("r", "", "h", "door"), ("e", "b", "j.b", "door"), ("d", "a", "x.a", "text")],
            grounds=[
                ground(3, "r", "", "x.a", "text", "down", ("a",), ("h",), [], 8),
                ground(3, "r", "", "h", "door", "else", ("i",), 7),
                ground(3, "r", "", "i", "door", "else", name("j.b"), 7),
                ground(3, "r", "", "j.b", "door", "down", ("b",), ("b",), ["e"], 7),
                ground(3, "e", "b", "j.b", "door", "else", name("k.b"), 5),
                ground(3, "e", "b", "k.b", "door", "rows", ["d"], 5),
                ground(3, "d", "a", "x.a", "text", "rows", ["v"], 4)])

    def test_doors_one_within_another(self):
        # the house of a lies in b, that of b in c
        asker = self.asker("r zone . 9\na 8 down h.b\nb 8 down h.c\nc 8 down h\nh 8 door dc",
                           "dc zone c. 5\nh 7 door db", "db zone b. 5\nh 7 door da", "da zone a. 5\nx 7 text v")
        self.answers(asker, "x.a", "text", "rows", ["v"], asks=[
            ("r", "", "x.a", "text"), ("r", "", "h.b", "door"), ("r", "", "h.c", "door"), ("r", "", "h", "door"),
            ("dc", "c", "h.c", "door"), ("db", "b", "h.b", "door"), ("da", "a", "x.a", "text")])

    def test_other_names_of_another_house(self):
        asker = self.asker("r zone . 9\na 8 down a\na 7 door d\nb 8 down b\nb 8 door e", "d zone a. 5\nx 4 else y.b.",
                           "e zone b. 5\ny 3 text v")
        self.answers(asker, "x.a", "text", "rows", ["v"], ("else", "y.b", "text"), asks=[
            ("r", "", "x.a", "text"), ("d", "a", "x.a", "text"), ("r", "", "y.b", "text"), ("e", "b", "y.b", "text")],
            grounds=[
                ground(3, "r", "", "x.a", "text", "down", ("a",), ("a",), ["d"], 7),
                ground(3, "d", "a", "x.a", "text", "else", name("y.b"), 4),
                ground(3, "r", "", "y.b", "text", "down", ("b",), ("b",), ["e"], 8),
                ground(3, "e", "b", "y.b", "text", "rows", ["v"], 3)])

    def test_a_door_waited_for_behind_another_name(self):
        # the waits ahead of the door stay when it is gone, and its name may come again behind it
        asker = self.asker("r zone . 9\nw 8 else x.a\na 8 down h\nh 8 door d",
                           "d zone a. 5\nx 4 else y\ny 4 else h.")
        self.answers(asker, "w", "door", "rows", ["d"], ("else", "x.a", "door"), ("else", "y.a", "door"),
                     ("else", "h", "door"), asks=[("r", "", "w", "door"), ("r", "", "h", "door"),
                                                  ("d", "a", "x.a", "door")])


class LostTest(AskerCase):
    def test_no_house_at_the_root(self):
        asker = self.asker()
        self.answers(asker, "a", "text", "lost", [], asks=[("r", "", "a", "text")],
                     grounds=[ground(0, "r", "", "a", "text", "away")])
        asker = self.asker("r zone a. 9\nx 1 text v", "d zone . 9\na 1 text v")
        self.answers(asker, "x.a", "text", "lost", [], asks=[("r", "", "x.a", "text")],
                     grounds=[ground(2, "r", "", "x.a", "text", "away")])

    def test_a_told_door_without_a_house(self):
        asker = self.asker("r zone . 9\na 8 down a\na 7 door d\nw 6 else x.a", "e zone a. 9\nx 1 text v", "d zone b. 9")
        self.answers(asker, "w", "text", "lost", [], ("else", "x.a", "text"), asks=[
            ("r", "", "w", "text"), ("d", "a", "x.a", "text")], grounds=[
            ground(3, "r", "", "w", "text", "else", name("x.a"), 6),
            ground(3, "r", "", "x.a", "text", "down", ("a",), ("a",), ["d"], 7),
            ground(3, "d", "a", "x.a", "text", "away")])

    def test_away_is_never_kept(self):
        asker = self.asker("r zone . 90\na 80 down h\nh 70 else i\ni 70 door d")
        grounds = [
            ground(1, "r", "", "x.a", "text", "down", ("a",), ("h",), [], 80),
            ground(1, "r", "", "h", "door", "else", ("i",), 70), ground(1, "r", "", "i", "door", "rows", ["d"], 70)]
        self.answers(asker, "x.a", "text", "lost", [], asks=[
            ("r", "", "x.a", "text"), ("r", "", "h", "door"), ("d", "a", "x.a", "text")],
            grounds=grounds + [ground(1, "d", "a", "x.a", "text", "away")])
        for turn in (1, 6):
            self.answers(asker, "x.a", "text", "lost", [], asks=[("d", "a", "x.a", "text")],
                         grounds=grounds + [ground(turn, "d", "a", "x.a", "text", "away")])
            self.world.wait(5)
        self.put("d zone a. 5\nx 4 text v")
        self.answers(asker, "x.a", "text", "rows", ["v"], asks=[("d", "a", "x.a", "text")],
                     grounds=grounds + [ground(12, "d", "a", "x.a", "text", "rows", ["v"], 4)])

    def test_away_behind_a_door(self):
        asker = self.asker("r zone . 9\na 8 down h.b\nb 7 down b\nb 7 door d")
        self.answers(asker, "x.a", "text", "lost", [], ("door", "h.b", "door"), asks=[
            ("r", "", "x.a", "text"), ("r", "", "h.b", "door"), ("d", "b", "h.b", "door")], grounds=[
            ground(1, "r", "", "x.a", "text", "down", ("a",), name("h.b"), [], 8),
            ground(1, "r", "", "h.b", "door", "down", ("b",), ("b",), ["d"], 7),
            ground(1, "d", "b", "h.b", "door", "away")])

    def test_empty_and_none_behind_a_door(self):
        asker = self.asker("r zone . 9\na 8 down h\nh 7 text v\nb 8 down i\nc 8 down j\nj 7 else k\nd 8 down h.a")
        down = ground(1, "r", "", "x.a", "text", "down", ("a",), ("h",), [], 8)
        empty = ground(1, "r", "", "h", "door", "empty", 9)
        self.answers(asker, "x.a", "text", "lost", [], ("door", "h", "door"), grounds=[down, empty], asks=[
            ("r", "", "x.a", "text"), ("r", "", "h", "door")])
        self.answers(asker, "b", "seal", "lost", [], ("door", "i", "door"), grounds=[
            ground(1, "r", "", "b", "seal", "down", ("b",), ("i",), [], 8),
            ground(1, "r", "", "i", "door", "none", 9)])
        self.answers(asker, "c", "text", "lost", [], ("door", "j", "door"), ("else", "k", "door"))
        self.answers(asker, "d", "text", "lost", [], ("door", "h.a", "door"), ("door", "h", "door"), grounds=[
            down, empty, ground(1, "r", "", "d", "text", "down", ("d",), name("h.a"), [], 8)], asks=[
            ("r", "", "d", "text")])
        # once more, by what is known
        self.answers(asker, "x.a", "text", "lost", [], ("door", "h", "door"), grounds=[down, empty], asks=[])


class RingTest(AskerCase):
    def test_of_other_names_through_the_first(self):
        asker = self.asker("r zone . 9\na 8 else b\nb 7 else c\nc 6 else a\nl 5 else l")
        grounds = [ground(1, "r", "", "a", "text", "else", ("b",), 8),
                   ground(1, "r", "", "b", "text", "else", ("c",), 7),
                   ground(1, "r", "", "c", "text", "else", ("a",), 6)]
        steps = [("else", "b", "text"), ("else", "c", "text"), ("else", "a", "text")]
        self.answers(asker, "a", "text", "ring", [], *steps, grounds=grounds, asks=[("r", "", "a", "text")])
        self.answers(asker, "a", "text", "ring", [], *steps, grounds=grounds, asks=[])
        self.answers(asker, "l", "text", "ring", [], ("else", "l", "text"), asks=[("r", "", "l", "text")])

    def test_of_other_names_that_begins_later(self):
        asker = self.asker("r zone . 9\na 8 else b\nb 7 else c\nc 6 else b")
        self.answers(asker, "a", "text", "ring", [],
                     ("else", "b", "text"), ("else", "c", "text"), ("else", "b", "text"))

    def test_of_doors_through_the_first(self):
        asker = self.asker("r zone . 9\na 8 down h.b\nb 7 down h.a")
        self.answers(asker, "h.a", "door", "ring", [], ("door", "h.b", "door"), ("door", "h.a", "door"), asks=[
            ("r", "", "h.a", "door"), ("r", "", "h.b", "door")], grounds=[
            ground(1, "r", "", "h.a", "door", "down", ("a",), name("h.b"), [], 8),
            ground(1, "r", "", "h.b", "door", "down", ("b",), name("h.a"), [], 7)])

    def test_of_doors_that_begins_later(self):
        asker = self.asker("r zone . 9\na 8 down h.b\nb 7 down h.a\ns 6 down h.s")
        self.answers(asker, "h.a", "text", "ring", [], ("door", "h.b", "door"), ("door", "h.a", "door"),
                     ("door", "h.b", "door"))
        self.answers(asker, "x.s", "text", "ring", [], ("door", "h.s", "door"), ("door", "h.s", "door"), asks=[
            ("r", "", "x.s", "text")])

    def test_of_both(self):
        asker = self.asker("r zone . 9\nh 8 else x.a\na 8 down h")
        self.answers(asker, "h", "text", "ring", [], ("else", "x.a", "text"), ("door", "h", "door"),
                     ("else", "x.a", "door"), ("door", "h", "door"))
        self.answers(asker, "h", "door", "ring", [], ("else", "x.a", "door"), ("door", "h", "door"), asks=[])

    def test_what_is_gone_from_the_waits_is_not_there_already(self):
        # h and its kind stood behind a door, and come once more behind it as another name
        asker = self.asker("r zone . 9\na 8 down h\nh 8 door d\nb 8 down h", "d zone a. 5\nx 4 else y.b.",
                           "d zone b. 5\ny 4 else h.")
        self.answers(asker, "x.a", "door", "rows", ["d"], ("else", "y.b", "door"), ("else", "h", "door"))


class NoneMeanwhileTest(AskerCase):
    """none is told of a name above a remembered cut, while its door is looked for"""

    def test_once_the_door_is_gone(self):
        asker = self.asker("r zone . 1\nb.a 80 down h\nx 80 door d")
        self.answers(asker, "x", "door", "rows", ["d"])
        self.answers(asker, "b.a", "text", "lost", [], ("door", "h", "door"))
        self.put("r zone . 90\nh 80 else x\nx 70 else a")
        self.world.wait(5)
        # nothing of the door is left, not even among the grounds
        self.answers(asker, "b.a", "text", "none", [], asks=[("r", "", "h", "door")], grounds=[
            ground(7, "r", "", "a", "door", "none", 90)])

    def test_where_the_ring_closes(self):
        asker = self.asker("r zone . 1\nb.a 80 down h\nx 80 else b.a")
        self.answers(asker, "x", "door", "lost", [], ("else", "b.a", "door"), ("door", "h", "door"))
        self.put("r zone . 90\nh 80 else x\nx 70 else a")
        self.world.wait(5)
        # what is known of the last by now is among the grounds
        self.answers(asker, "b.a", "door", "ring", [], ("door", "h", "door"), ("else", "x", "door"),
                     ("else", "b.a", "door"), asks=[("r", "", "h", "door")], grounds=[
            ground(1, "r", "", "x", "door", "else", name("b.a"), 80),
            ground(1, "r", "", "b.a", "door", "down", name("b.a"), ("h",), [], 80),
            ground(7, "r", "", "h", "door", "else", ("x",), 80),
            ground(7, "r", "", "a", "door", "none", 90)])
        self.answers(asker, "b.a", "door", "none", [], asks=[])


class MemoryTest(AskerCase):
    """an asker that was told something before"""

    ZONES = ("r zone . 9\na 8 down a\na 7 door d\nb 5 else x.a", "d zone a. 6\nx 5 text v\ny 5 seal w\nz 5 else x")

    def test_the_same_question_asks_no_house(self):
        asker = self.asker(*self.ZONES)
        for text, kind in (
            ("x.a", "text"), ("y.a", "text"), ("n.a", "text"), ("z.a", "text"), ("b", "text"), ("x", "seal"),
        ):
            first = asker.ask(name(text), kind)
            self.assertNotEqual(first[4], [])
            self.assertEqual(asker.ask(name(text), kind), first[:4] + ([],))
        self.assertEqual(self.world.turn(), 2)

    def test_only_the_lower_house_is_asked_about_another_name(self):
        asker = self.asker(*self.ZONES)
        asker.ask(name("x.a"), "text")
        self.answers(asker, "y.a", "seal", "rows", ["w"], asks=[("d", "a", "y.a", "seal")])
        self.answers(asker, "x.a", "seal", "empty", [], asks=[("d", "a", "x.a", "seal")])
        self.answers(asker, "a", "seal", "empty", [], asks=[("d", "a", "a", "seal")])

    def test_none_of_each_kind_and_of_each_name_beneath(self):
        asker = self.asker(*self.ZONES)
        self.answers(asker, "n.a", "text", "none", [])
        for text, kind in (("n.a", "seal"), ("m.n.a", "text"), ("l.m.n.a", "door")):
            self.answers(asker, text, kind, "none", [], asks=[], grounds=[
                ground(2, "r", "", "n.a", "text", "down", ("a",), ("a",), ["d"], 7),
                ground(2, "d", "a", "n.a", "text", "none", 6)])

    def test_other_names_of_each_kind(self):
        asker = self.asker(*self.ZONES)
        self.answers(asker, "b", "text", "rows", ["v"], ("else", "x.a", "text"))
        self.answers(asker, "b", "seal", "empty", [], ("else", "x.a", "seal"), asks=[("d", "a", "x.a", "seal")])

    def test_one_that_does_not_remember(self):
        asker = self.asker(*self.ZONES, remembers=False)
        for again in range(3):
            self.answers(asker, "x.a", "text", "rows", ["v"], asks=[
                ("r", "", "x.a", "text"), ("d", "a", "x.a", "text")])
            self.answers(asker, "b", "text", "rows", ["v"], ("else", "x.a", "text"), asks=[
                ("r", "", "b", "text"), ("d", "a", "x.a", "text")])
        self.assertEqual(self.world.asks(), 12)
        self.put("d zone a. 6\nx 5 text w")
        self.answers(asker, "x.a", "text", "rows", ["w"])

    def test_one_that_does_not_remember_still_does_within_an_answer(self):
        asker = self.asker("r zone . 0\na 0 down h\nh 0 else i\ni 0 door d\nw 0 else x.a",
                           "d zone a. 0\nx 0 else y\ny 0 else h.", remembers=False)
        self.answers(asker, "w", "door", "rows", ["d"], ("else", "x.a", "door"), ("else", "y.a", "door"),
                     ("else", "h", "door"), ("else", "i", "door"), asks=[
            ("r", "", "w", "door"), ("r", "", "h", "door"), ("d", "a", "x.a", "door")])

    def test_clear(self):
        asker = self.asker(*self.ZONES)
        asks = [("r", "", "x.a", "text"), ("d", "a", "x.a", "text")]
        self.answers(asker, "x.a", "text", "rows", ["v"], asks=asks)
        self.assertIsNone(asker.clear())
        self.answers(asker, "x.a", "text", "rows", ["v"], asks=asks)
        self.answers(asker, "x.a", "text", "rows", ["v"], asks=[])
        self.assertEqual((self.world.turn(), self.world.asks()), (2, 4))

    def test_two_askers_are_two(self):
        asker = self.asker(*self.ZONES)
        other = Asker(self.world)
        asker.ask(name("x.a"), "text")
        self.assertEqual(len(other.ask(name("x.a"), "text")[4]), 2)
        asker.clear()
        self.assertEqual(len(other.ask(name("x.a"), "text")[4]), 0)

    def test_a_later_turn_and_its_grounds(self):
        asker = self.asker(*self.ZONES)
        asker.ask(name("x.a"), "text")
        self.world.wait(3)
        self.answers(asker, "y.a", "seal", "rows", ["w"], grounds=[
            ground(2, "r", "", "x.a", "text", "down", ("a",), ("a",), ["d"], 7),
            ground(5, "d", "a", "y.a", "seal", "rows", ["w"], 5)])


class LifeTest(AskerCase):
    def test_the_last_turn_and_the_next(self):
        asker = self.asker("r zone . 3\na 5 text v")
        for text, life, word in (("a", 5, "rows"), ("b", 3, "none")):
            first = asker.ask(name(text), "text")
            self.world.wait(life)
            self.assertEqual(asker.ask(name(text), "text"), first[:4] + ([],))
            self.world.wait(1)
            again = asker.ask(name(text), "text")
            self.assertEqual(again[0], word)
            self.assertEqual(again[4], first[4])
            self.assertEqual([one[0] for one in again[3]], [self.world.turn()])

    def test_a_life_of_nought(self):
        asker = self.asker("r zone . 0\na 0 text v\nb 0 else a")
        for text, steps in (("a", []), ("b", [("else", "a", "text")])):
            asker.clear()
            self.answers(asker, text, "text", "rows", ["v"], *steps, asks=[("r", "", text, "text")])
            self.answers(asker, text, "text", "rows", ["v"], *steps, asks=[])
            self.world.wait(0)
            self.answers(asker, text, "text", "rows", ["v"], *steps, asks=[])
            self.world.wait(1)
            self.answers(asker, text, "text", "rows", ["v"], *steps, asks=[("r", "", text, "text")])

    def test_no_longer_than_the_down_on_which_it_rests(self):
        asker = self.asker("r zone . 9\na 2 down a\na 7 door d", "d zone a. 6\nx 50 text v")
        asks = [("r", "", "x.a", "text"), ("d", "a", "x.a", "text")]
        self.answers(asker, "x.a", "text", "rows", ["v"], asks=asks)
        self.world.wait(2)
        self.answers(asker, "x.a", "text", "rows", ["v"], asks=[])
        self.world.wait(1)
        self.answers(asker, "x.a", "text", "rows", ["v"], asks=asks)

    def test_no_longer_than_the_rows_and_other_names_by_which_the_door_was_found(self):
        for lives in ((2, 50), (50, 2)):
            asker = self.asker(f"r zone . 90\na 50 down h\nh {lives[0]} else i\ni {lives[1]} door d",
                               "d zone a. 60\nx 50 text v")
            lower = ("d", "a", "x.a", "text")
            self.answers(asker, "x.a", "text", "rows", ["v"], asks=[
                ("r", "", "x.a", "text"), ("r", "", "h", "door"), lower])
            self.world.wait(2)
            self.answers(asker, "x.a", "text", "rows", ["v"], asks=[])
            self.world.wait(1)
            # the down is still there
            self.answers(asker, "x.a", "text", "rows", ["v"], asks=[
                ("r", "", "h" if lives[0] == 2 else "i", "door"), lower])

    def test_what_is_told_beside_rests_on_the_same(self):
        asker = self.asker("r zone . 9\na 2 down a\na 7 door d", "d zone a. 6\nx 50 else y\ny 50 text v")
        asker.ask(name("x.a"), "text")
        self.answers(asker, "y.a", "text", "rows", ["v"], asks=[], grounds=[
            ground(2, "r", "", "x.a", "text", "down", ("a",), ("a",), ["d"], 2),
            ground(2, "d", "a", "y.a", "text", "rows", ["v"], 50)])
        self.world.wait(3)
        self.answers(asker, "y.a", "text", "rows", ["v"], asks=[("r", "", "y.a", "text"), ("d", "a", "y.a", "text")])

    def test_what_does_not_hold_is_let_go(self):
        asker = self.asker("r zone . 9\na 5 text v\nb 7 text w")
        for turns, text, many in ((0, "a", 1), (0, "b", 2), (5, "b", 2), (1, "b", 1), (2, "c", 1)):
            self.world.wait(turns)
            asker.ask((text,), "text")
            self.assertEqual(asker.memory.many(), many)

    def test_at_a_late_turn(self):
        asker = self.asker("r zone . 9\na 5 text v\nb 999999999 text w")
        for step in range(10 ** 6 - 1):
            self.world.wait(999999999)
        self.answers(asker, "b", "text", "rows", ["w"], asks=[("r", "", "b", "text")])
        self.world.wait(999999994)
        self.answers(asker, "a", "text", "rows", ["v"], asks=[("r", "", "a", "text")])
        self.world.wait(5)
        self.answers(asker, "a", "text", "rows", ["v"], asks=[])
        self.answers(asker, "b", "text", "rows", ["w"], asks=[])
        self.world.wait(1)
        self.answers(asker, "b", "text", "rows", ["w"], asks=[("r", "", "b", "text")], grounds=[
            ground(10 ** 15 - 10 ** 6 + 2, "r", "", "b", "text", "rows", ["w"], 999999999)])


class BesideTest(AskerCase):
    def test_of_the_very_top_asked_for(self):
        asker = self.asker("r zone . 9\na 8 else b\nb 7 else c\nc 6 text v")
        grounds = [ground(1, "r", "", "a", "text", "else", ("b",), 8),
                   ground(1, "r", "", "b", "text", "else", ("c",), 7),
                   ground(1, "r", "", "c", "text", "rows", ["v"], 6)]
        self.answers(asker, "a", "text", "rows", ["v"], ("else", "b", "text"), ("else", "c", "text"), grounds=grounds,
                     asks=[("r", "", "a", "text")])
        self.answers(asker, "c", "text", "rows", ["v"], grounds=grounds[2:], asks=[])
        self.answers(asker, "b", "text", "rows", ["v"], ("else", "c", "text"), grounds=grounds[1:], asks=[])
        # of another kind the last was not told
        self.answers(asker, "a", "seal", "empty", [], ("else", "b", "seal"), ("else", "c", "seal"), asks=[
            ("r", "", "c", "seal")])

    def test_of_the_root_without_anything_handed(self):
        asker = self.asker("r zone . 9\nw 8 else x.a\na 8 down a\na 8 door d", "d zone a. 5\nx 5 text v")
        self.answers(asker, "w", "text", "rows", ["v"], ("else", "x.a", "text"), asks=[
            ("r", "", "w", "text"), ("d", "a", "x.a", "text")], grounds=[
            ground(2, "r", "", "w", "text", "else", name("x.a"), 8),
            ground(2, "r", "", "x.a", "text", "down", ("a",), ("a",), ["d"], 8),
            ground(2, "d", "a", "x.a", "text", "rows", ["v"], 5)])

    def test_of_another_top(self):
        # one house keeps both zones; the upper one may have lost its say of the lower
        asker = self.asker("r zone . 9\na 8 else x.b\nb 8 down b\nb 8 door e", "r zone b. 5\nx 5 text old",
                           "e zone b. 5\nx 5 text new")
        self.assertEqual(len(self.world.ask("r", (), ("a",), "text")[1]), 1)
        self.answers(asker, "a", "text", "rows", ["new"], ("else", "x.b", "text"), asks=[
            ("r", "", "a", "text"), ("r", "", "x.b", "text"), ("e", "b", "x.b", "text")])

    def test_of_another_top_in_between(self):
        # y.b is told beside by b, and z behind it by the root, of the very top asked for
        asker = self.asker("r zone . 9\na 8 else y.b\nb 8 down b\nb 8 door e\nz 5 text far", "r zone b. 5\ny 5 else z.",
                           "e zone b. 5\ny 5 text near")
        self.answers(asker, "a", "text", "rows", ["near"], ("else", "y.b", "text"))
        self.answers(asker, "z", "text", "rows", ["far"], asks=[], grounds=[
            ground(3, "r", "", "z", "text", "rows", ["far"], 5)])

    def test_handed_at_another_top(self):
        # the cut at b is remembered; the root, asked of its own top, does not have say of x.b any more
        asker = self.asker("r zone . 9\nb 8 down b\nb 8 door e", "e zone b. 5\nx 5 text low\nq 5 text q")
        asker.ask(name("q.b"), "text")
        self.put("r zone . 9\na 8 else x.b\nx.b 8 text high")
        self.answers(asker, "a", "text", "rows", ["low"], ("else", "x.b", "text"), asks=[
            ("r", "", "a", "text"), ("e", "b", "x.b", "text")])
        self.world.wait(8)
        self.answers(asker, "a", "text", "rows", ["high"], ("else", "x.b", "text"))

    def test_handed_at_a_longer_cut_than_the_top(self):
        asker = self.asker("r zone . 50\na 50 down a\na 50 door d", "d zone a. 50\nb 9 down b\nb 9 door e",
                           "e zone b.a. 50\nx 50 text low\nq 50 text q")
        asker.ask(name("q.b.a"), "text")
        self.put("d zone a. 50\ny 50 else x.b\nx.b 50 text high")
        self.answers(asker, "y.a", "text", "rows", ["low"], ("else", "x.b.a", "text"), asks=[
            ("d", "a", "y.a", "text"), ("e", "b.a", "x.b.a", "text")])

    def test_known_already(self):
        asker = self.asker("r zone . 9\nb 8 text old")
        asker.ask(("b",), "text")
        self.put("r zone . 9\na 20 else b\nb 20 text new")
        self.answers(asker, "a", "text", "rows", ["old"], ("else", "b", "text"), asks=[("r", "", "a", "text")],
                     grounds=[ground(1, "r", "", "b", "text", "rows", ["old"], 8),
                              ground(2, "r", "", "a", "text", "else", ("b",), 20)])
        self.world.wait(7)
        self.answers(asker, "a", "text", "rows", ["old"], ("else", "b", "text"), asks=[])
        self.world.wait(1)
        self.answers(asker, "a", "text", "rows", ["new"], ("else", "b", "text"), asks=[("r", "", "b", "text")])

    def test_known_already_by_another_reply(self):
        asker = self.asker("r zone . 9\nb 8 text old")
        asker.ask(("b",), "text")
        self.put("r zone . 9\na 20 else b\nb 20 else c\nc 20 seal s")
        self.answers(asker, "a", "text", "rows", ["old"], ("else", "b", "text"))
        # that b is another name was told beside, but not kept
        self.answers(asker, "b", "seal", "rows", ["s"], ("else", "c", "seal"), asks=[("r", "", "b", "seal")])

    def test_known_already_by_none_of_a_name_above(self):
        asker = self.asker("r zone . 9\nc 8 else x.b")
        self.answers(asker, "b", "text", "none", [])
        self.put("r zone . 9\nc 8 else x.b\nx.b 8 text v")
        self.answers(asker, "c", "text", "none", [], ("else", "x.b", "text"), asks=[("r", "", "c", "text")], grounds=[
            ground(1, "r", "", "b", "text", "none", 9), ground(2, "r", "", "c", "text", "else", name("x.b"), 8)])

    def test_a_down_told_beside(self):
        asker = self.asker("r zone . 9\na 8 else x.b\nb 8 down h\nh 8 door e", "e zone b. 5\nx 5 text v")
        self.answers(asker, "a", "text", "rows", ["v"], ("else", "x.b", "text"), asks=[
            ("r", "", "a", "text"), ("r", "", "h", "door"), ("e", "b", "x.b", "text")])


class ChangeTest(AskerCase):
    def test_a_longer_cut_is_still_remembered(self):
        asker = self.asker("r zone . 9\na 40 down a\na 40 door d", "d zone a. 9\nb 6 down b\nb 6 door e",
                           "e zone b.a. 9\nx 3 text low")
        asker.ask(name("x.b.a"), "text")
        self.put("d zone a. 9\nx.b 5 text high")
        self.put("e zone b.a. 9\nx 3 text lower")
        self.world.wait(2)
        self.answers(asker, "x.b.a", "text", "rows", ["lower"], asks=[("e", "b.a", "x.b.a", "text")], grounds=[
            ground(3, "r", "", "x.b.a", "text", "down", ("a",), ("a",), ["d"], 40),
            ground(3, "d", "a", "x.b.a", "text", "down", name("b.a"), name("b.a"), ["e"], 6),
            ground(7, "e", "b.a", "x.b.a", "text", "rows", ["lower"], 3)])
        # though told at turn 7 with a life of 3, it holds no longer than the down
        self.world.wait(2)
        self.answers(asker, "x.b.a", "text", "rows", ["lower"], asks=[])
        self.world.wait(1)
        self.answers(asker, "x.b.a", "text", "rows", ["high"], asks=[("d", "a", "x.b.a", "text")])

    def test_a_remembered_cut_whose_house_is_gone(self):
        asker = self.asker("r zone . 9\na 40 down a\na 40 door d", "d zone a. 9\nx 3 text v")
        asker.ask(name("x.a"), "text")
        self.world.drop("d", ("a",))
        self.world.wait(2)
        self.answers(asker, "x.a", "text", "rows", ["v"], asks=[])
        self.put("r zone . 9\na 40 down a\na 40 door e")
        self.put("e zone a. 9\nx 3 text w")
        self.answers(asker, "x.a", "text", "lost", [], asks=[("d", "a", "x.a", "text")])
        self.world.wait(40)
        self.answers(asker, "x.a", "text", "rows", ["w"])

    def test_changes_are_seen_in_that_very_world(self):
        asker = self.asker()
        self.answers(asker, "a", "text", "lost", [])
        self.put("r zone . 9\na 0 text v")
        self.answers(asker, "a", "text", "rows", ["v"])
        self.world.drop("r", ())
        self.answers(asker, "a", "text", "lost", [])

    def test_a_name_told_anew_counts_from_then(self):
        asker = self.asker("r zone . 9\na 2 text v\nb 9 else a")
        self.answers(asker, "a", "text", "rows", ["v"])
        self.answers(asker, "b", "text", "rows", ["v"], ("else", "a", "text"), grounds=[
            ground(1, "r", "", "a", "text", "rows", ["v"], 2), ground(1, "r", "", "b", "text", "else", ("a",), 9)])
        self.world.wait(3)
        self.answers(asker, "b", "text", "rows", ["v"], ("else", "a", "text"), asks=[("r", "", "a", "text")], grounds=[
            ground(1, "r", "", "b", "text", "else", ("a",), 9), ground(4, "r", "", "a", "text", "rows", ["v"], 2)])

    def test_the_same_again_whatever_was_asked_or_changed_between(self):
        asker = self.asker("r zone . 20\na 18 down h\nh 17 else i\ni 16 door d\nw 15 else x.a",
                           "d zone a. 14\nx 13 text v\ny 12 else n")
        first = [asker.ask(name(text), kind) for text, kind in (("w", "text"), ("y.a", "text"), ("x.a", "seal"))]
        self.assertEqual([one[0] for one in first], ["rows", "none", "empty"])
        self.world.drop("d", ("a",))
        self.put("r zone . 3\nx.a 9 text u\nw 5 text u\nn.a 5 text u\nh 5 door e")
        self.put("e zone a. 3\nx 3 seal s")
        for text, kind in (
            ("x.a", "text"), ("w", "seal"), ("h", "door"), ("z.a", "text"), ("q.n.a", "door"), ("a", "text"),
        ):
            asker.ask(name(text), kind)
        self.world.wait(12 - 3)
        for one in first:
            again = asker.ask(one[2][0][1], one[2][0][2])
            self.assertEqual(again, one[:4] + ([],))
        self.world.wait(1)
        self.assertEqual(asker.ask(name("x.a"), "seal")[4], [])
        # y.a is past its life, and its house is gone
        self.assertEqual(asker.ask(name("y.a"), "text")[0], "lost")


class OwnershipTest(AskerCase):
    ZONES = ("r zone . 9\na 8 down h\nh 7 else i\ni 6 door d\nb 5 down b\nb 5 door e\nc 4 down j\nl 3 else l\n"
             "w 3 else x.a", "d zone a. 6\nx 5 text v\n 5 text u")

    def test_lists_are_the_askers_own(self):
        asker = self.asker(*self.ZONES)
        for text, many in (("x.a", 7), ("w", 7), ("n.a", 6), ("b", 5), ("c", 5), ("l", 4)):
            for remembers in (True, False):
                asker = Asker(self.world, remembers)
                asker.ask(name(text), "text")
                with self.subTest(text=text):
                    own_lists(self, lambda: asker.ask(name(text), "text"), many)

    def test_the_first_answer_spoilt(self):
        for text in ("x.a", "w", "n.a", "b", "c", "l"):
            asker = self.asker(*self.ZONES)
            first = asker.ask(name(text), "text")
            expected = copy.deepcopy(first)
            self.assertEqual(len({id(one) for one in lists_in(first)}), len(lists_in(first)))
            spoil(first)
            again = asker.ask(name(text), "text")
            self.assertEqual(again[:4], expected[:4])

    def test_what_was_told_stays_whatever_is_done_later(self):
        asker = self.asker(*self.ZONES)
        told = [asker.ask(name(text), "text") for text in ("x.a", "w", "n.a", "b", "c", "l")]
        expected = copy.deepcopy(told)
        self.put("d zone a. 6\nx 5 text u")
        for turns in (0, 3, 50):
            self.world.wait(turns)
            for text in ("x.a", "w", "n.a", "b", "c", "l"):
                asker.ask(name(text), "text")
        asker.clear()
        self.assertEqual(told, expected)

    def test_the_world_is_asked_alone(self):
        asker = self.asker(*self.ZONES)
        houses = self.world.houses()
        for text in ("x.a", "w", "n.a", "b", "c", "l"):
            asker.ask(name(text), "text")
        self.assertEqual((self.world.houses(), self.world.turn()), (houses, 2))


class ChanceTest(unittest.TestCase):
    def test_as_the_document_says_word_by_word(self):
        seen = {}
        for source, houses, world in worlds_by_chance(500):
            pairs = [(Asker(world, remembers), PlainAsker(world, remembers)) for remembers in (True, False)]
            questions = []
            for step in range(40):
                deed = source.randint(0, 12)
                if deed == 0:
                    world.wait(source.choice((0, 1, 2, 5)))
                elif deed < 3:
                    some_change(source, world, houses)
                elif deed == 3 and source.randint(0, 3) == 0:
                    for asker, plain in pairs:
                        asker.clear()
                        plain.memory.clear()
                else:
                    question = source.choice(questions) if deed < 6 and questions else some_question(source, world)
                    questions.append(question)
                    self.same(world, pairs, question, seen)
        for event in ("door gone", "beside of another top", "beside known already", "beside kept",
                      "beside not asked of that top", ("rows", "asked"), ("rows", "known"), ("none", "known"),
                      ("empty", "known"), ("ring", "asked"), ("ring", "known"), ("lost", "asked"), ("lost", "known")):
            self.assertGreater(seen.get(event, 0), 20, event)

    def same(self, world, pairs, question, seen):
        for asker, plain in pairs:
            asks = world.asks()
            answer = asker.ask(question[0], question[1])
            self.assertEqual(answer, plain.ask(question[0], question[1]))
            self.assertEqual(world.asks() - asks, len(answer[4]))
            for event in plain.events + [(answer[0], "asked" if answer[4] else "known")]:
                seen[event] = seen.get(event, 0) + 1
            plain.events.clear()


if __name__ == "__main__":
    unittest.main()
