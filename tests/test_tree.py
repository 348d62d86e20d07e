import copy
import random
import unittest

from namewell.houses import asked
from namewell.told import cut_of, told
from namewell.tree import charges, truth
from tests.worlds import KINDS, arguments, house, name, own_lists, some_houses, some_name, some_place, spoil

SHOWN = {
    "r": house(
        "zone . 99\nnorth 90 down keeper.north\nkeeper.north 80 door d1\n 81 door d9\nsouth 90 down keeper.north\n"
        "east 90 down ns.west\nwest 90 down ns.east\nself 90 down ns.self\nlate 90 down ns.south\n"
        "dead 90 down nobody\nfound 90 down house\nhouse 5 else inn\ninn 6 door d4\n 6 door d3\n"
        "old 7 else mill.north\nround 7 else about\nabout 7 else round\nlone 7 else lone\n"
        "gone 90 down g.gone\ng.gone 80 door nobody\nto-dead 7 else x.dead\nto-gone 7 else gone\n"
        "to-east 7 else a.east"),
    "d1": house(
        "zone north. 60\nmill 300 text stone\n 200 text oak\nkeeper 5 door d1\nold 40 else mill\ndeep 50 down x.deep\n"
        "x.deep 50 door d2",
        "zone south. 61\nns 9 door d2\ninn 9 text red\nto 8 else far.late."),
    "d2": house("zone deep.north. 62\na 1 text low", "zone late. 63\nfar 2 text late"),
    "d3": house("zone found. 64\na 3 text there"),
}


def longest(names, question):
    return max([one for one in names if question[:len(one)] == one], key=len)


def plain_reply(houses, doors, question, kind):
    top = longest(doors, question)
    return asked(houses, doors[top], top, question, kind)[0]


def plain_lead(houses, doors, question):
    """the first value of the rows to which a name and the kind door lead by these names with doors, or None"""
    met = []
    while question not in met:
        met.append(question)
        reply = plain_reply(houses, doors, question, "door")
        if reply[0] == "rows":
            return reply[1][0]
        if reply[0] != "else":
            return None
        question = reply[1]
    return None


def plain_door(houses, doors, top, cut):
    """the door that the cut in the zone of that top comes to have by these names with doors, or None"""
    zones = [zone for zone in houses.get(doors[top], []) if zone[0] == top]
    if not zones or cut_of(zones[0], cut) != cut:
        return None
    reply = told(zones[0], cut, "text")
    return reply[3][0] if reply[3] else plain_lead(houses, doors, reply[2])


def plain_charges(houses, root, source):
    """[21], word by word, the names found in an order by chance"""
    doors = {(): root}
    downs = {row[0] for zones in houses.values() for zone in zones for row in zone[2] if row[2] == "down"}
    grown = True
    while grown:
        grown = False
        pairs = [(top, cut) for top in doors for cut in downs if cut not in doors]
        source.shuffle(pairs)
        for top, cut in pairs:
            door = plain_door(houses, doors, top, cut)
            if door is not None:
                doors[cut] = door
                grown = True
                break
    return doors


def plain_truth(houses, doors, question, kind):
    """[22] to [24], word by word"""
    waits = [("asked", question, kind)]
    while True:
        reply = plain_reply(houses, doors, waits[-1][1], waits[-1][2])
        if reply[0] == "else":
            waits.append(("else", reply[1], waits[-1][2]))
        elif reply[0] == "down":
            waits.append(("door", reply[2], "door"))
        else:
            break
        if waits[-1][1:] in [one[1:] for one in waits[:-1]]:
            return ("ring", [], waits)
    if reply[0] == "away" or "door" in [one[0] for one in waits]:
        return ("lost", [], waits)
    return (reply[0], reply[1] if reply[0] == "rows" else [], waits)


class InterfaceTest(unittest.TestCase):
    def test_arguments(self):
        self.assertEqual(arguments(charges), ["houses", "root"])
        self.assertEqual(arguments(truth), ["houses", "root", "N", "K"])


class TreeCase(unittest.TestCase):
    def in_order(self, houses, root):
        """looks whether each door is found by the names ahead of it alone; tells the charges as a dict"""
        answer = charges(houses, root)
        self.assertIs(answer.__class__, list)
        self.assertEqual(answer[0], ((), root))
        doors = {(): root}
        for cut, door in answer[1:]:
            self.assertNotIn(cut, doors)
            found = [plain_door(houses, doors, top, cut) for top in doors]
            self.assertEqual([one for one in found if one is not None], [door])
            doors[cut] = door
        return doors

    def have_doors(self, houses, expected):
        doors = self.in_order(houses, "r")
        self.assertEqual(doors.pop(()), "r")
        self.assertEqual(doors, {name(text): door for text, door in expected.items()})


class ChargesTest(TreeCase):
    def test_no_house_at_the_root(self):
        self.assertEqual(charges({}, "r"), [((), "r")])
        self.assertEqual(charges({"r": []}, "r"), [((), "r")])
        self.assertEqual(charges({"d": house("zone . 5\na 1 down a\na 1 door x")}, "r"), [((), "r")])
        self.assertEqual(charges({"r": house("zone a. 5\nb 1 down b\nb 1 door x")}, "r"), [((), "r")])

    def test_of_several_houses(self):
        self.have_doors(SHOWN, {
            "north": "d1", "deep.north": "d2", "south": "d1", "late": "d2", "found": "d3", "gone": "nobody"})

    def test_doors_told_with_the_cut(self):
        houses = {"r": house("zone . 5\na 1 down h.a\nh.a 1 door d2\n 1 door d1\n 1 text d0\nb 1 down b\nb 1 door B")}
        self.have_doors(houses, {"a": "d1", "b": "B"})

    def test_told_doors_go_ahead_of_those_found_by_asking(self):
        # the house of the cut itself tells another door of its name
        houses = {"r": house("zone . 5\na 1 down h.a\nh.a 1 door d2\n"), "d2": house("zone a. 5\nh 1 door d1")}
        self.have_doors(houses, {"a": "d2"})

    def test_a_zone_behind_no_door_found_counts_for_nothing(self):
        houses = {"r": house("zone . 5\na 1 down h.a\nh.a 1 door d1"),
                  "d2": house("zone a. 5\nb 1 down b\nb 1 door d3"),
                  "d1": house("zone b.a. 5\nc 1 down c\nc 1 door d3")}
        self.have_doors(houses, {"a": "d1"})

    def test_a_cut_above_another(self):
        houses = {"r": house("zone . 5\nb.a 1 down x.b.a\nx.b.a 1 door d1\na 1 down x.a\nx.a 1 door d2"),
                  "d1": house("zone b.a. 5\nc 1 down c\nc 1 door d3")}
        self.have_doors(houses, {"a": "d2"})
        houses["d2"] = house("zone a. 5\nb 1 down y.b\ny.b 1 door d4")
        self.have_doors(houses, {"a": "d2", "b.a": "d4"})

    def test_a_door_found_by_asking(self):
        houses = {"r": house("zone . 5\na 1 down h\nh 1 door d2\n 1 door d1\nb 1 down i\nc 1 down j\nj 1 text d1")}
        self.have_doors(houses, {"a": "d1"})

    def test_a_door_found_by_other_names(self):
        houses = {"r": house("zone . 5\na 1 down h\nh 1 else i\ni 1 else x.b\nb 1 down y.b\ny.b 1 door d1"),
                  "d1": house("zone b. 5\nx 1 else y\ny 1 door d5\n 1 door d4")}
        self.have_doors(houses, {"a": "d4", "b": "d1"})

    def test_a_door_found_at_a_star(self):
        houses = {"r": house("zone . 5\na 1 down h\n* 1 door d1\nb 1 down x.b\n*.b 1 door d2")}
        self.have_doors(houses, {"a": "d1"})

    def test_a_door_found_only_after_anothers(self):
        houses = {"r": house("zone . 5\nc 1 down h.b\nb 1 down h.a\na 1 down h"), "da": house("zone a. 5\nh 1 door db"),
                  "db": house("zone b. 5\nh 1 door dc")}
        self.have_doors(houses, {})
        houses["r"] = house("zone . 5\nc 1 down h.b\nb 1 down h.a\na 1 down h\nh 1 door da")
        self.have_doors(houses, {"a": "da", "b": "db", "c": "dc"})

    def test_two_cuts_with_one_house(self):
        houses = {"r": house("zone . 5\na 1 down h\nb 1 down h\nc 1 down i\ni 1 else h\nh 1 door d")}
        self.have_doors(houses, {"a": "d", "b": "d", "c": "d"})

    def test_a_house_met_before_on_the_way_to_another(self):
        # c waits for b, whose house was led to a door for a already, itself or by another name
        for row in ("b 1 down h", "b 1 down i\ni 1 else h"):
            houses = {"r": house(f"zone . 5\na 1 down h\nc 1 down x.b\n{row}\nh 1 door d"),
                      "d": house("zone b. 5\nx 1 door e")}
            self.have_doors(houses, {"a": "d", "b": "d", "c": "e"})
        # d waits for c by another name, which led to a door already
        houses["r"] = house("zone . 5\nc 1 down x.b\nd 1 down i\ni 1 else x.b\nb 1 down h\nh 1 door d")
        self.have_doors(houses, {"b": "d", "c": "e", "d": "e"})

    def test_a_house_that_led_to_nothing_before(self):
        houses = {"r": house(
            "zone . 5\na 1 down h\nc 1 down x.b\nb 1 down h\nd 1 down i\ni 1 else h\ne 1 down ok\nok 1 door d")}
        self.have_doors(houses, {"e": "d"})

    def test_a_ring_of_doors(self):
        houses = {"r": house("zone . 5\na 1 down h.b\nb 1 down h.c\nc 1 down h.a\nd 1 down h.a"),
                  "d": house("zone a. 5\nh 1 door d", "zone b. 5\nh 1 door d", "zone c. 5\nh 1 door d")}
        self.have_doors(houses, {})

    def test_a_ring_of_other_names(self):
        houses = {"r": house("zone . 5\na 1 down h\nh 1 else i\ni 1 else h\nb 1 down i\nc 1 down j\nj 1 else h")}
        self.have_doors(houses, {})

    def test_a_house_beneath_its_own_cut(self):
        houses = {"r": house("zone . 5\na 1 down h.a\n*.a 1 door d1\nb 1 down h.a"),
                  "d1": house("zone a. 5\nh 1 door d1")}
        self.have_doors(houses, {})

    def test_a_house_that_leads_to_nothing(self):
        houses = {"r": house(
            "zone . 5\na 1 down empty\nempty 1 text d1\nb 1 down none\nc 1 down x.away\naway 1 down h.away\n"
            "h.away 1 door nobody\nd 1 down h.a\ne 1 down else\nelse 1 else none")}
        self.have_doors(houses, {"away": "nobody"})

    def test_the_same_door_for_many_zones(self):
        houses = {"r": house("zone . 5\na 1 down a\na 1 door r", "zone a. 5\nb 1 down b\nb 1 door r",
                             "zone b.a. 5\nc 1 down h.c\nh.c 1 door r")}
        self.have_doors(houses, {"a": "r", "b.a": "r", "c.b.a": "r"})


class TruthTest(unittest.TestCase):
    def is_true(self, text, kind, word, values, *steps):
        with self.subTest(text=text, kind=kind):
            waits = [(why, name(one), of) for why, one, of in steps]
            expected = (word, values, [("asked", name(text), kind)] + waits)
            self.assertEqual(truth(SHOWN, "r", name(text), kind), expected)

    def test_replies(self):
        self.is_true("mill.north", "text", "rows", ["oak", "stone"])
        self.is_true("mill.north", "seal", "empty", [])
        self.is_true("x.north", "text", "none", [])
        self.is_true("x", "text", "none", [])
        self.is_true("", "text", "empty", [])
        self.is_true("a.deep.north", "text", "rows", ["low"])
        self.is_true("inn.south", "text", "rows", ["red"])
        self.is_true("far.late", "text", "rows", ["late"])
        self.is_true("a.found", "text", "rows", ["there"])
        self.is_true("keeper.north", "door", "rows", ["d1"])

    def test_away(self):
        self.is_true("gone", "text", "lost", [])
        self.is_true("x.gone", "text", "lost", [])
        self.is_true("to-gone", "text", "lost", [], ("else", "gone", "text"))
        self.assertEqual(truth({}, "r", ("a",), "text"), ("lost", [], [("asked", ("a",), "text")]))
        self.assertEqual(truth(SHOWN, "d1", ("north",), "text"), ("lost", [], [("asked", ("north",), "text")]))

    def test_other_names(self):
        self.is_true("old", "text", "rows", ["oak", "stone"], ("else", "mill.north", "text"))
        self.is_true("old", "seal", "empty", [], ("else", "mill.north", "seal"))
        self.is_true("to.south", "text", "rows", ["late"], ("else", "far.late", "text"))
        self.is_true("house", "door", "rows", ["d3", "d4"], ("else", "inn", "door"))

    def test_waiting_for_a_door(self):
        self.is_true("x.dead", "text", "lost", [], ("door", "nobody", "door"))
        self.is_true("dead", "door", "lost", [], ("door", "nobody", "door"))
        self.is_true("to-dead", "text", "lost", [], ("else", "x.dead", "text"), ("door", "nobody", "door"))

    def test_a_ring_of_other_names(self):
        self.is_true("round", "text", "ring", [], ("else", "about", "text"), ("else", "round", "text"))
        self.is_true("lone", "text", "ring", [], ("else", "lone", "text"))

    def test_a_ring_that_begins_later(self):
        houses = {"r": house("zone . 5\na 1 else b\nb 1 else c\nc 1 else b")}
        self.assertEqual(truth(houses, "r", ("a",), "text"), ("ring", [], [
            ("asked", ("a",), "text"), ("else", ("b",), "text"), ("else", ("c",), "text"), ("else", ("b",), "text")]))

    def test_a_ring_of_doors(self):
        self.is_true("x.east", "text", "ring", [],
                     ("door", "ns.west", "door"), ("door", "ns.east", "door"), ("door", "ns.west", "door"))
        self.is_true("ns.east", "door", "ring", [], ("door", "ns.west", "door"), ("door", "ns.east", "door"))
        self.is_true("ns.east", "text", "ring", [],
                     ("door", "ns.west", "door"), ("door", "ns.east", "door"), ("door", "ns.west", "door"))
        self.is_true("to-east", "text", "ring", [], ("else", "a.east", "text"),
                     ("door", "ns.west", "door"), ("door", "ns.east", "door"), ("door", "ns.west", "door"))

    def test_a_house_beneath_its_own_cut(self):
        self.is_true("a.self", "text", "ring", [], ("door", "ns.self", "door"), ("door", "ns.self", "door"))
        self.is_true("ns.self", "door", "ring", [], ("door", "ns.self", "door"))

    def test_a_ring_of_other_names_behind_a_door(self):
        houses = {"r": house("zone . 5\na 1 down h\nh 1 else i\ni 1 else h")}
        self.assertEqual(truth(houses, "r", ("a", "b"), "text"), ("ring", [], [
            ("asked", ("a", "b"), "text"), ("door", ("h",), "door"), ("else", ("i",), "door"),
            ("else", ("h",), "door")]))

    def test_the_same_name_of_another_kind_is_no_ring(self):
        houses = {"r": house("zone . 5\nh 1 else x.a\na 1 down h")}
        self.assertEqual(truth(houses, "r", ("h",), "text"), ("ring", [], [
            ("asked", ("h",), "text"), ("else", ("a", "x"), "text"), ("door", ("h",), "door"),
            ("else", ("a", "x"), "door"), ("door", ("h",), "door")]))

    def test_lost_behind_a_door(self):
        houses = {"r": house("zone . 5\na 1 down h\nh 1 else x.b\nb 1 down i\ni 1 text v\nc 1 down x.g\n"
                             "g 1 down g\ng 1 door gone")}
        self.assertEqual(truth(houses, "r", ("a",), "text"), ("lost", [], [
            ("asked", ("a",), "text"), ("door", ("h",), "door"), ("else", ("b", "x"), "door"),
            ("door", ("i",), "door")]))
        self.assertEqual(truth(houses, "r", ("c",), "text"), ("lost", [], [
            ("asked", ("c",), "text"), ("door", ("g", "x"), "door")]))


class OwnershipTest(unittest.TestCase):
    QUESTIONS = (("mill.north", "text"), ("a.east", "text"), ("x.dead", "seal"), ("old", "text"), ("gone", "text"))

    def test_what_is_handed_in_is_not_changed(self):
        houses = copy.deepcopy(SHOWN)
        charges(houses, "r")
        for text, kind in self.QUESTIONS:
            truth(houses, "r", name(text), kind)
        self.assertEqual(houses, SHOWN)
        self.assertEqual(list(houses), list(SHOWN))

    def test_houses_changed_behind_the_call(self):
        houses = copy.deepcopy(SHOWN)
        first = [charges(houses, "r")] + [truth(houses, "r", name(text), kind) for text, kind in self.QUESTIONS]
        expected = copy.deepcopy(first)
        spoil(houses["r"][0][2])
        houses.clear()
        self.assertEqual(first, expected)
        self.assertEqual(charges(houses, "r"), [((), "r")])
        self.assertEqual(truth(houses, "r", (), "text")[0], "lost")

    def test_lists_are_the_askers_own(self):
        houses = copy.deepcopy(SHOWN)
        for text, kind in self.QUESTIONS:
            own_lists(self, lambda: truth(houses, "r", name(text), kind), 2)
        own_lists(self, lambda: charges(houses, "r"), 1)
        self.assertEqual(houses, SHOWN)


class ChanceTest(TreeCase):
    def test_as_the_document_says_word_by_word(self):
        seen = {}
        for seed in range(1500):
            source = random.Random(seed)
            houses = some_houses(source)
            doors = plain_charges(houses, "r", source)
            with self.subTest(houses=houses):
                self.assertEqual(self.in_order(houses, "r"), doors)
            zones = [zone for door in houses for zone in houses[door]]
            for step in range(6):
                question = some_place(source, source.choice(zones)) if zones else some_name(source)
                kind = source.choice(KINDS)
                answer = truth(houses, "r", question, kind)
                why = "door" if "door" in [one[0] for one in answer[2]] else "else"
                seen[answer[0], why] = seen.get((answer[0], why), 0) + 1
                with self.subTest(houses=houses, question=question, kind=kind):
                    self.assertEqual(answer, plain_truth(houses, doors, question, kind))
        for pair in (("rows", "else"), ("empty", "else"), ("none", "else"), ("lost", "else"), ("lost", "door"),
                     ("ring", "else"), ("ring", "door")):
            self.assertGreater(seen[pair], 50, pair)


class LargeTest(TreeCase):
    """a hundred zones of three hundred rows"""

    def test_doors_one_after_another(self):
        # the door of each zone is told by the next one's house alone, and there are other rows enough
        zones = {f"d{number}": [((f"t{number}",), 5, [((f"t{number}", "h"), 1, "door", f"d{number - 1}")] + [
            ((f"t{number}", f"w{row}"), 1, "text", "v") for row in range(299)])] for number in range(99)}
        rows = [((f"t{number}",), 1, "down", (f"t{number + 1}", "h")) for number in range(99)]
        rows.append((("t99",), 1, "down", ("t99", "h")))
        rows.append((("t99", "h"), 1, "door", "last"))
        houses = dict(zones)
        houses["last"] = [(("t99",), 5, [(("t99", "h"), 1, "door", "d98")])]
        houses["r"] = [((), 5, rows)]
        doors = charges(houses, "r")
        # there is but one order in which each is found by those ahead of it
        self.assertEqual(doors, [((), "r"), (("t99",), "last")] + [
            ((f"t{number}",), f"d{number}") for number in range(98, -1, -1)])
        self.assertEqual(truth(houses, "r", ("t0", "w7"), "text"), ("rows", ["v"], [("asked", ("t0", "w7"), "text")]))

    def test_thirty_thousand_cuts(self):
        # all houses lie behind one chain of other names; at its end stands a door, or nothing
        chain = [(("l", f"c{number}"), 1, "else", ("l", f"c{number + 1}")) for number in range(290)]
        rows = [((f"t{number}",), 1, "down", (f"t{number}", "h")) for number in range(98)]
        rows += [((f"t{number}", "h"), 1, "door", "d") for number in range(98)]
        rows += [(("l",), 1, "down", ("l", "h")), (("l", "h"), 1, "door", "l")]
        cuts = []
        for number in range(98):
            downs = [((f"t{number}", f"u{row}"), 1, "down", ("l", f"c{row % 290}")) for row in range(300)]
            cuts.append(((f"t{number}",), 5, downs))
        for end, many in (([(("l", "c290"), 1, "door", "e")], 29400), ([], 0)):
            houses = {"r": [((), 5, rows)], "d": cuts, "l": [(("l",), 5, chain + end)]}
            self.assertEqual(len(charges(houses, "r")), 100 + many)
            word = truth(houses, "r", ("t5", "u0", "x"), "text")
            self.assertEqual(word[0], "lost")
            self.assertEqual(len(word[2]), 1 if many else 292)

    def test_a_long_chain_of_other_names(self):
        rows = {number: [] for number in range(99)}
        for step in range(99 * 300 - 1):
            here = (f"t{step % 99}", f"n{step // 99}")
            rows[step % 99].append((here, 1, "else", (f"t{(step + 1) % 99}", f"n{(step + 1) // 99}")))
        for last, word in (((), "ring"), (("x",), "none")):
            rows[98] = rows[98][:299] + [(("t98", "n299"), 1, "else", ("t0", "n0") + last)]
            downs = [((f"t{number}",), 1, "down", (f"t{number}",)) for number in range(99)]
            houses = {"r": [((), 5, downs + [(row[0], 1, "door", "d") for row in downs])],
                      "d": [((f"t{number}",), 5, rows[number]) for number in range(99)]}
            answer = truth(houses, "r", ("t0", "n0"), "text")
            self.assertEqual(answer[0], word)
            self.assertEqual(len(answer[2]), 99 * 300 + 1)


if __name__ == "__main__":
    unittest.main()
