import copy
import random
import unittest

from namewell.houses import asked, kept, nearest
from namewell.told import told
from tests.worlds import KINDS, arguments, house, name, own_lists, some_houses, some_name, some_place

HOUSES = {
    "d1": house(
        "zone . 9\nold.south 4 else new.north\nloop 5 else pool\npool 6 else loop\nself 7 else self\nx 1 text root",
        "zone north. 8\nnew 3 else mill.north.\nmill 2 text oak\n 1 text ash\nto-far 5 else y.far.north.\n"
        "hole 5 else nowhere\nbare 5 else mill\nfar 6 down k.far\nk.far 7 door d2",
        "zone east.north. 7\nx 1 else old.south.\nup 1 else top.north.\nat 2 else east.north.\n@ 3 text dawn",
    ),
    "d2": house(
        "zone far.north. 6\ny 1 else mill.north.\nz 2 else w\nw 3 else v.u.\na 4 else b\nb 5 else c\nc 6 else b",
        "zone u. 5\nv 9 else q.far.north.",
    ),
    "bare": [],
}
NORTH = ("north",)
FAR = name("far.north")


def plain_asked(houses, door, top, question, kind):
    """[19] and [20], word by word"""
    zones = houses.get(door, [])
    own = [zone for zone in zones if zone[0] == top]
    if not own:
        return (("away",), [])
    reply = last = told(own[0], question, kind)
    beside = []
    while last[0] == "else" and last[1] != question and last[1] not in [one[1] for one in beside]:
        other = last[1]
        found = [zone for zone in zones if other[:len(zone[0])] == zone[0]]
        if not found:
            break
        zone = max(found, key=lambda one: len(one[0]))
        last = told(zone, other, kind)
        beside.append((zone[0], other, kind, last))
    return (reply, beside)


class InterfaceTest(unittest.TestCase):
    def test_arguments(self):
        self.assertEqual(arguments(kept), ["houses", "door", "T"])
        self.assertEqual(arguments(nearest), ["houses", "door", "N"])
        self.assertEqual(arguments(asked), ["houses", "door", "T", "N", "K"])


class KeptTest(unittest.TestCase):
    def test_just_that_top(self):
        self.assertEqual(kept(HOUSES, "d1", ()), HOUSES["d1"][0])
        self.assertEqual(kept(HOUSES, "d1", NORTH), HOUSES["d1"][1])
        self.assertEqual(kept(HOUSES, "d1", name("east.north")), HOUSES["d1"][2])
        self.assertEqual(kept(HOUSES, "d2", FAR), HOUSES["d2"][0])

    def test_none(self):
        for door, text in (("d1", "mill.north"), ("d1", "x.east.north"), ("d1", "far.north"), ("d2", ""),
                           ("d2", "north"), ("d3", ""), ("bare", ""), ("D1", ""), ("d2", "x.far.north")):
            with self.subTest(door=door, text=text):
                self.assertIsNone(kept(HOUSES, door, name(text)))
        self.assertIsNone(kept({}, "d1", ()))

    def test_the_longest_top(self):
        for door, text, number in (
            ("d1", "", 0), ("d1", "south", 0), ("d1", "x.y.south", 0), ("d1", "north", 1), ("d1", "far.north", 1),
            ("d1", "east.north", 2), ("d1", "x.east.north", 2), ("d1", "y.x.east.north", 2), ("d1", "northern", 0),
            ("d1", "north.east", 0), ("d2", "far.north", 0), ("d2", "x.far.north", 0), ("d2", "v.u", 1),
        ):
            with self.subTest(door=door, text=text):
                self.assertEqual(nearest(HOUSES, door, name(text)), HOUSES[door][number])

    def test_in_whatever_order_they_lie(self):
        turned = {"d1": list(reversed(HOUSES["d1"]))}
        self.assertEqual(nearest(turned, "d1", name("x.east.north")), HOUSES["d1"][2])
        self.assertEqual(nearest(turned, "d1", name("x.north")), HOUSES["d1"][1])
        self.assertEqual(nearest(turned, "d1", name("x")), HOUSES["d1"][0])

    def test_no_top_above(self):
        for door, text in (("d2", ""), ("d2", "north"), ("d2", "x.north"), ("d3", "x"), ("bare", "x"), ("bare", "")):
            with self.subTest(door=door, text=text):
                self.assertIsNone(nearest(HOUSES, door, name(text)))


class AskedTest(unittest.TestCase):
    def replies(self, door, top, text, kind, reply, beside):
        with self.subTest(door=door, top=top, text=text):
            answer = asked(HOUSES, door, top, name(text), kind)
            self.assertEqual(answer, (reply, beside))
            self.assertIs(answer.__class__, tuple)

    def test_away(self):
        for door, text in (("d3", "mill.north"), ("bare", "mill.north"), ("d2", "mill.north")):
            self.replies(door, (), text, "text", ("away",), [])
            self.replies(door, NORTH, text, "text", ("away",), [])
        # there is a zone above, and one beneath, but none of just that top
        self.replies("d1", FAR, "y.far.north", "text", ("away",), [])
        self.replies("d1", name("x.east.north"), "x.east.north", "text", ("away",), [])

    def test_what_the_zone_of_that_top_tells(self):
        self.replies("d1", NORTH, "mill.north", "text", ("rows", ["ash", "oak"], 1), [])
        self.replies("d1", NORTH, "mill.north", "seal", ("empty", 8), [])
        self.replies("d1", NORTH, "x.north", "text", ("none", 8), [])
        # not the nearest zone: that of the top that was asked of
        self.replies("d1", (), "mill.north", "text", ("none", 9), [])
        self.replies("d1", NORTH, "x.far.north", "text", ("down", FAR, name("k.far.north"), ["d2"], 6), [])

    def test_beside_an_else(self):
        self.replies("d1", NORTH, "bare.north", "text", ("else", name("mill.north"), 5), [
            (NORTH, name("mill.north"), "text", ("rows", ["ash", "oak"], 1))])
        self.replies("d1", NORTH, "bare.north", "seal", ("else", name("mill.north"), 5), [
            (NORTH, name("mill.north"), "seal", ("empty", 8))])
        self.replies("d1", NORTH, "hole.north", "text", ("else", name("nowhere.north"), 5), [
            (NORTH, name("nowhere.north"), "text", ("none", 8))])
        self.replies("d1", NORTH, "to-far.north", "text", ("else", name("y.far.north"), 5), [
            (NORTH, name("y.far.north"), "text", ("down", FAR, name("k.far.north"), ["d2"], 6))])

    def test_beside_from_zone_to_zone(self):
        self.replies("d1", name("east.north"), "x.east.north", "text", ("else", name("old.south"), 1), [
            ((), name("old.south"), "text", ("else", name("new.north"), 4)),
            (NORTH, name("new.north"), "text", ("else", name("mill.north"), 3)),
            (NORTH, name("mill.north"), "text", ("rows", ["ash", "oak"], 1))])
        self.replies("d1", name("east.north"), "up.east.north", "text", ("else", name("top.north"), 1), [
            (NORTH, name("top.north"), "text", ("none", 8))])

    def test_the_zone_with_the_longest_top_speaks(self):
        houses = {"d": house(
            "zone . 9\no 1 else x.b.a\nx.b.a 1 text root", "zone b.a. 8\nx 2 text low", "zone a. 7\nx.b 3 text mid")}
        for zones in (houses["d"], list(reversed(houses["d"]))):
            self.assertEqual(asked({"d": zones}, "d", (), ("o",), "text"), (
                ("else", name("x.b.a"), 1), [(name("b.a"), name("x.b.a"), "text", ("rows", ["low"], 2))]))

    def test_m_at_a_top(self):
        self.replies("d1", name("east.north"), "at.east.north", "text", ("else", name("east.north"), 2), [
            (name("east.north"), name("east.north"), "text", ("rows", ["dawn"], 3))])

    def test_m_outside_every_zone(self):
        self.replies("d2", FAR, "y.far.north", "text", ("else", name("mill.north"), 1), [])
        # only behind others that lie in its zones
        self.replies("d2", FAR, "z.far.north", "text", ("else", name("w.far.north"), 2), [
            (FAR, name("w.far.north"), "text", ("else", name("v.u"), 3)),
            (("u",), name("v.u"), "text", ("else", name("q.far.north"), 9)),
            (FAR, name("q.far.north"), "text", ("none", 6))])

    def test_back_to_the_name_asked_for(self):
        self.replies("d1", (), "self", "text", ("else", ("self",), 7), [])
        self.replies("d1", (), "loop", "text", ("else", ("pool",), 5), [
            ((), ("pool",), "text", ("else", ("loop",), 6))])

    def test_back_to_one_told_beside_before(self):
        b = name("b.far.north")
        c = name("c.far.north")
        self.replies("d2", FAR, "a.far.north", "text", ("else", b, 4), [
            (FAR, b, "text", ("else", c, 5)), (FAR, c, "text", ("else", b, 6))])

    def test_else_at_a_star(self):
        houses = {"d": house("zone a. 9\n* 1 else x.b.\nb 2 text v", "zone b. 8\n* 3 else y.x.\nz 4 text v")}
        self.assertEqual(asked(houses, "d", ("a",), name("q.a"), "text"), (
            ("else", name("x.b"), 1), [(("b",), name("x.b"), "text", ("else", name("y.x"), 3))]))


class OwnershipTest(unittest.TestCase):
    def test_what_is_handed_in_is_not_changed(self):
        houses = copy.deepcopy(HOUSES)
        for door in ("d1", "d2", "d3", "bare"):
            kept(houses, door, NORTH)
            nearest(houses, door, NORTH)
            asked(houses, door, NORTH, name("bare.north"), "text")
        self.assertEqual(houses, HOUSES)
        self.assertEqual(list(houses), list(HOUSES))

    def test_houses_changed_behind_the_call(self):
        houses = copy.deepcopy(HOUSES)
        zone = kept(houses, "d1", NORTH)
        near = nearest(houses, "d1", NORTH)
        answer = asked(houses, "d1", NORTH, name("bare.north"), "text")
        expected = copy.deepcopy((zone, near, answer))
        houses["d1"][1][2].clear()
        houses["d1"].clear()
        self.assertEqual((zone, near, answer), expected)
        self.assertIsNone(kept(houses, "d1", NORTH))
        self.assertEqual(asked(houses, "d1", NORTH, name("bare.north"), "text"), (("away",), []))

    def test_lists_are_the_askers_own(self):
        houses = copy.deepcopy(HOUSES)
        for ask, many in (
            (lambda: kept(houses, "d1", NORTH), 1),
            (lambda: nearest(houses, "d1", name("x.north")), 1),
            (lambda: asked(houses, "d1", NORTH, name("mill.north"), "text"), 2),
            (lambda: asked(houses, "d1", NORTH, name("bare.north"), "text"), 2),
            (lambda: asked(houses, "d1", NORTH, name("to-far.north"), "text"), 2),
            (lambda: asked(houses, "d1", NORTH, name("far.north"), "text"), 2),
            (lambda: asked(houses, "d3", NORTH, name("far.north"), "text"), 1),
        ):
            own_lists(self, ask, many)
        self.assertEqual(houses, HOUSES)


class ChanceTest(unittest.TestCase):
    def test_as_the_document_says_word_by_word(self):
        besides = 0
        for seed in range(800):
            source = random.Random(seed)
            houses = some_houses(source)
            for door in ("r", "d0", "d1", "d2", "d9"):
                top = some_name(source, 2)
                question = top + some_name(source, 2)
                if houses.get(door) and source.randint(0, 3):
                    zone = source.choice(houses[door])
                    top = zone[0]
                    question = some_place(source, zone)
                kind = source.choice(KINDS)
                with self.subTest(houses=houses, door=door, top=top, question=question):
                    answer = asked(houses, door, top, question, kind)
                    self.assertEqual(answer, plain_asked(houses, door, top, question, kind))
                    besides += len(answer[1]) > 0
        self.assertGreater(besides, 100)

    def test_a_hundred_zones_of_three_hundred_rows(self):
        # one chain of other names through all zones, from zone to zone and back
        names = [(f"z{number % 100}", f"n{number // 100}") for number in range(30000)]
        rows = {}
        for number in range(29999):
            rows.setdefault(names[number][0], []).append((names[number], number, "else", names[number + 1]))
        rows["z99"].append((names[-1], 7, "text", "end"))
        houses = {"d": [((top,), 5, rows[top]) for top in rows]}
        reply, beside = asked(houses, "d", ("z0",), names[0], "text")
        self.assertEqual(reply, ("else", names[1], 0))
        self.assertEqual([one[1] for one in beside], names[1:])
        self.assertEqual(beside[-1], (("z99",), names[-1], "text", ("rows", ["end"], 7)))


if __name__ == "__main__":
    unittest.main()
