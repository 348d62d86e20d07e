import copy
import random
import unittest

from namewell.told import cut_of, stands, told
from namewell.zones import read_zone
from tests.worlds import KINDS, arguments, name, own_lists, some_name, some_zone

NORTH = read_zone("""zone north. 60
@          30 text  head
mill      300 text  stone
          200 text  Oak
          100 text  ash
          250 seal  wax
old        40 else  mill
away       41 else  x.south.
deep.in.the 70 text found
*.the      11 text  starred
*          12 else  mill
far       900 down  keeper.far
keeper.far 500 door d2
           400 door d1
           300 text no-door
          1000 door D3
""")


def below(text):
    return ("north",) + name(text)


def beneath(one, other):
    return len(one) > len(other) and one[:len(other)] == other


def plain_cut(zone, asked):
    for length in range(len(zone[0]) + 1, len(asked) + 1):
        if [row for row in zone[2] if row[0] == asked[:length] and row[2] == "down"]:
            return asked[:length]
    return None


def plain_stands(zone, asked):
    return asked == zone[0] or any(row[0] == asked or beneath(row[0], asked) for row in zone[2])


def plain_told(zone, asked, kind):
    """[16], word by word"""
    cut = plain_cut(zone, asked)
    if cut is not None:
        down = [row for row in zone[2] if row[0] == cut and row[2] == "down"]
        house = down[0][3]
        doors = [row for row in zone[2] if row[0] == house and row[2] == "door"]
        if house != cut and not beneath(house, cut):
            doors = []
        return ("down", cut, house, sorted(row[3] for row in doors), min(row[1] for row in down + doors))
    place = asked
    if not plain_stands(zone, asked):
        length = len(asked) - 1
        while not plain_stands(zone, asked[:length]):
            length -= 1
        place = asked[:length] + ("*",)
        if not [row for row in zone[2] if row[0] == place]:
            return ("none", zone[1])
    here = [row for row in zone[2] if row[0] == place]
    if [row for row in here if row[2] == "else"]:
        return ("else", here[0][3], here[0][1])
    rows = [row for row in here if row[2] == kind]
    if rows:
        return ("rows", sorted(row[3] for row in rows), min(row[1] for row in rows))
    return ("empty", zone[1])


class InterfaceTest(unittest.TestCase):
    def test_arguments(self):
        self.assertEqual(arguments(cut_of), ["zone", "N"])
        self.assertEqual(arguments(stands), ["zone", "N"])
        self.assertEqual(arguments(told), ["zone", "N", "K"])


class CutTest(unittest.TestCase):
    def test_none(self):
        for text in ("", "mill", "x", "x.y.z", "old", "the", "deep.in.the", "fa", "farm", "far.x"):
            with self.subTest(text):
                self.assertIsNone(cut_of(NORTH, below(text) if text else ("north",)))
        self.assertIsNone(cut_of(((), 5, []), ("a",)))

    def test_at_and_beneath_the_down_row(self):
        for text in ("far", "x.far", "keeper.far", "a.b.c.d.e.f.g.h.far"):
            with self.subTest(text):
                self.assertEqual(cut_of(NORTH, below(text)), below("far"))

    def test_the_shortest(self):
        zone = read_zone("zone . 5\nc.b.a 1 down x\nb.a 1 down y\nd.c.b.a 1 down z\nq.a 1 down w")
        for text in ("b.a", "c.b.a", "d.c.b.a", "e.d.c.b.a", "x.b.a"):
            with self.subTest(text):
                self.assertEqual(cut_of(zone, name(text)), name("b.a"))
        self.assertEqual(cut_of(zone, name("z.q.a")), name("q.a"))
        self.assertIsNone(cut_of(zone, name("a")))
        self.assertIsNone(cut_of(zone, name("z.a")))
        self.assertIsNone(cut_of(zone, ()))

    def test_only_down_rows_cut(self):
        zone = read_zone("zone . 5\na 1 else x\nb 1 door d\n* 1 else x\nc 1 text down")
        for text in ("a", "x.a", "b", "x.b", "c", "x.c", "d", "x.d"):
            self.assertIsNone(cut_of(zone, name(text)))


class StandsTest(unittest.TestCase):
    def test_the_top(self):
        self.assertIs(stands((("a", "b"), 5, []), ("a", "b")), True)
        self.assertIs(stands(((), 5, []), ()), True)
        self.assertIs(stands(((), 5, []), ("a",)), False)

    def test_rows_at_and_beneath(self):
        for text, expected in (
            ("mill", True), ("old", True), ("far", True), ("keeper.far", True), ("deep.in.the", True),
            ("in.the", True), ("the", True), ("x.far", False), ("deep", False), ("x.deep.in.the", False),
            ("x", False), ("mil", False), ("mills", False), ("x.mill", False), ("x.the", False), ("in", False),
        ):
            with self.subTest(text):
                self.assertIs(stands(NORTH, below(text)), expected)

    def test_a_star_name_beneath(self):
        zone = read_zone("zone . 5\n*.b.a 1 text v")
        for text, expected in (("", True), ("a", True), ("b.a", True), ("c.b.a", False), ("b", False)):
            with self.subTest(text):
                self.assertIs(stands(zone, name(text)), expected)

    def test_by_a_row_beneath_a_cut(self):
        zone = read_zone("zone . 5\na 1 down x\nd.c.b.a 1 door v")
        self.assertIs(stands(zone, name("c.b.a")), True)
        self.assertIs(stands(zone, name("x.b.a")), False)


class ToldTest(unittest.TestCase):
    def tells(self, text, kind, reply):
        with self.subTest(text=text, kind=kind):
            self.assertEqual(told(NORTH, below(text), kind), reply)

    def test_rows(self):
        self.tells("mill", "text", ("rows", ["Oak", "ash", "stone"], 100))
        self.tells("mill", "seal", ("rows", ["wax"], 250))
        self.tells("deep.in.the", "text", ("rows", ["found"], 70))
        self.assertEqual(told(NORTH, ("north",), "text"), ("rows", ["head"], 30))

    def test_values_in_pythons_order(self):
        zone = read_zone("zone . 5\na 1 text b\n 1 text B\n 1 text 10\n 1 text 9\n 1 text -\n 1 text ~\n 1 text b1")
        self.assertEqual(told(zone, ("a",), "text"), ("rows", ["-", "10", "9", "B", "b", "b1", "~"], 1))

    def test_the_least_life(self):
        zone = read_zone("zone . 5\na 7 text u\na 3 text v\na 9 text w\na 0 seal x\na 2 seal y\nb 0 text z")
        self.assertEqual(told(zone, ("a",), "text")[2], 3)
        self.assertEqual(told(zone, ("a",), "seal")[2], 0)
        self.assertEqual(told(zone, ("b",), "text"), ("rows", ["z"], 0))
        zone = read_zone("zone . 5\na 999999999 text u")
        self.assertEqual(told(zone, ("a",), "text")[2], 999999999)

    def test_empty(self):
        self.tells("mill", "door", ("empty", 60))
        self.tells("deep.in.the", "door", ("empty", 60))
        self.assertEqual(told(NORTH, ("north",), "door"), ("empty", 60))
        self.assertEqual(told(((), 0, []), (), "text"), ("empty", 0))

    def test_a_name_that_stands_by_what_lies_beneath_alone(self):
        self.tells("the", "text", ("empty", 60))
        self.tells("in.the", "text", ("empty", 60))
        zone = read_zone("zone . 5\n*.b.a 1 text v\n* 1 text w\n*.a 1 text u")
        self.assertEqual(told(zone, name("b.a"), "text"), ("empty", 5))
        self.assertEqual(told(zone, name("a"), "text"), ("empty", 5))

    def test_else(self):
        self.tells("old", "text", ("else", below("mill"), 40))
        self.tells("old", "door", ("else", below("mill"), 40))
        self.tells("away", "seal", ("else", name("x.south"), 41))
        zone = read_zone("zone north. 5\n@ 3 else @\nb 4 else .")
        self.assertEqual(told(zone, ("north",), "text"), ("else", ("north",), 3))
        self.assertEqual(told(zone, below("b"), "text"), ("else", (), 4))

    def test_else_speaks_for_its_name_alone(self):
        zone = read_zone("zone . 5\na 3 else b\nc.a 4 text v")
        self.assertEqual(told(zone, name("c.a"), "text"), ("rows", ["v"], 4))
        self.assertEqual(told(zone, name("d.a"), "text"), ("none", 5))

    def test_stars(self):
        self.tells("x", "text", ("else", below("mill"), 12))
        self.tells("x.y.z", "seal", ("else", below("mill"), 12))
        self.tells("x.the", "text", ("rows", ["starred"], 11))
        self.tells("y.x.the", "text", ("rows", ["starred"], 11))
        self.tells("x.the", "seal", ("empty", 60))

    def test_a_star_that_does_not_count(self):
        # beneath mill, old and in.the, which stand, there is no star; those further up do not count
        for text in ("x.mill", "x.old", "x.in.the", "y.x.in.the", "x.deep.in.the"):
            self.tells(text, "text", ("none", 60))
        # nor do those further down
        zone = read_zone("zone . 5\n*.b.a 1 text v\n*.c 1 text w")
        for text in ("x", "x.y", "x.a", "y.x.a", "b", "x.b"):
            with self.subTest(text):
                self.assertEqual(told(zone, name(text), "text"), ("none", 5))
        self.assertEqual(told(zone, name("x.b.a"), "text"), ("rows", ["v"], 1))

    def test_a_star_at_the_top(self):
        zone = read_zone("zone a. 5\n* 1 text v\n* 0 text u\n* 2 seal w")
        self.assertEqual(told(zone, name("x.a"), "text"), ("rows", ["u", "v"], 0))
        self.assertEqual(told(zone, name("y.x.a"), "seal"), ("rows", ["w"], 2))
        self.assertEqual(told(zone, name("y.x.a"), "door"), ("empty", 5))
        self.assertEqual(told(zone, name("a"), "text"), ("empty", 5))

    def test_none(self):
        zone = read_zone("zone . 7\nb.a 1 text v")
        for text in ("c", "c.a", "c.b.a", "b", "d.c"):
            for kind in ("text", "door"):
                self.assertEqual(told(zone, name(text), kind), ("none", 7))
        self.assertEqual(told(((), 0, []), ("a",), "text"), ("none", 0))

    def test_none_of_it_is_none_of_all_beneath(self):
        seen = 0
        for seed in range(300):
            source = random.Random(seed)
            zone = some_zone(source)
            asked = zone[0] + some_name(source)
            if told(zone, asked, "text")[0] == "none":
                seen += 1
                for step in range(10):
                    kind = source.choice(KINDS)
                    self.assertEqual(told(zone, asked, kind), ("none", zone[1]))
                    self.assertEqual(told(zone, asked + some_name(source), kind), ("none", zone[1]))
        self.assertGreater(seen, 50)


class DownTest(unittest.TestCase):
    def test_at_and_beneath_the_cut(self):
        reply = ("down", below("far"), below("keeper.far"), ["D3", "d1", "d2"], 400)
        for text in ("far", "x.far", "keeper.far", "y.keeper.far"):
            for kind in ("text", "door", "seal"):
                with self.subTest(text):
                    self.assertEqual(told(NORTH, below(text), kind), reply)

    def test_the_shortest_cut_speaks(self):
        zone = read_zone("zone . 5\nb.a 8 down x.b.a\na 9 down x.a\nx.b.a 1 door d1\nx.a 2 door d2")
        for text in ("a", "b.a", "c.b.a", "x.a", "x.b.a"):
            with self.subTest(text):
                self.assertEqual(told(zone, name(text), "text"), ("down", name("a"), name("x.a"), ["d2"], 2))

    def test_a_house_at_its_cut(self):
        zone = read_zone("zone . 5\na 8 down a\na 6 door d2\na 7 door d1\na 1 text v")
        self.assertEqual(told(zone, name("a"), "text"), ("down", name("a"), name("a"), ["d1", "d2"], 6))

    def test_a_house_outside_its_cut(self):
        for house in ("h", "h.b", ".", "aa", "a.b", "c.h.b"):
            zone = read_zone(f"zone . 5\na 8 down {house}\n{house} 1 door d1\n" + "x.a 2 door d2")
            with self.subTest(house):
                self.assertEqual(told(zone, name("a"), "text"), ("down", name("a"), zone[2][0][3], [], 8))

    def test_a_house_above_its_cut(self):
        zone = read_zone("zone . 5\nb.a 8 down a\na 1 door d1\n@ 1 door d2")
        self.assertEqual(told(zone, name("b.a"), "text"), ("down", name("b.a"), name("a"), [], 8))

    def test_a_house_without_door_rows(self):
        for rows in ("", "x.a 1 text d1", "y.x.a 1 door d1", "a 1 door d1", "x.a 1 else a", "x.b 1 door d1"):
            zone = read_zone("zone . 5\na 8 down x.a\n" + rows)
            with self.subTest(rows):
                self.assertEqual(told(zone, name("x.a"), "door"), ("down", name("a"), name("x.a"), [], 8))

    def test_door_rows_at_a_star_are_not_told(self):
        zone = read_zone("zone . 5\na 8 down x.a\n*.a 1 door d1\n* 1 door d2")
        self.assertEqual(told(zone, name("a"), "text"), ("down", name("a"), name("x.a"), [], 8))

    def test_the_least_life(self):
        zone = read_zone("zone . 5\na 8 down x.a\nx.a 9 door d1\nx.a 10 door d2\nx.a 1 text v\na 0 text v")
        self.assertEqual(told(zone, name("a"), "text")[4], 8)
        zone = read_zone("zone . 5\na 8 down x.a\nx.a 9 door d1\nx.a 0 door d2")
        self.assertEqual(told(zone, name("a"), "text")[4], 0)
        zone = read_zone("zone . 5\na 0 down x\nx 3 door d")
        self.assertEqual(told(zone, name("a"), "text")[4], 0)

    def test_beside_a_cut_the_zone_speaks_itself(self):
        zone = read_zone("zone . 5\na 8 down x.a\n* 1 text v\nb 2 text w")
        self.assertEqual(told(zone, name("b"), "text"), ("rows", ["w"], 2))
        self.assertEqual(told(zone, name("c"), "text"), ("rows", ["v"], 1))


class OwnershipTest(unittest.TestCase):
    def test_what_is_handed_in_is_not_changed(self):
        zone = copy.deepcopy(NORTH)
        for text in ("mill", "far", "x", "old", "x.mill", "the"):
            cut_of(zone, below(text))
            stands(zone, below(text))
            told(zone, below(text), "text")
        self.assertEqual(zone, NORTH)

    def test_a_zone_changed_behind_the_call(self):
        zone = copy.deepcopy(NORTH)
        rows = told(zone, below("mill"), "text")
        down = told(zone, below("far"), "text")
        zone[2].clear()
        self.assertEqual(rows, ("rows", ["Oak", "ash", "stone"], 100))
        self.assertEqual(down, ("down", below("far"), below("keeper.far"), ["D3", "d1", "d2"], 400))
        self.assertEqual(told(zone, below("mill"), "text"), ("none", 60))
        self.assertIs(stands(zone, below("mill")), False)
        self.assertIsNone(cut_of(zone, below("far")))
        zone[2].append((below("mill"), 3, "text", "new"))
        self.assertEqual(told(zone, below("mill"), "text"), ("rows", ["new"], 3))

    def test_lists_are_the_askers_own(self):
        own_lists(self, lambda: told(NORTH, below("mill"), "text"), 1)
        own_lists(self, lambda: told(NORTH, below("far"), "text"), 1)
        bare = read_zone("zone . 5\na 1 down b")
        own_lists(self, lambda: told(bare, ("a",), "text"), 1)


class ChanceTest(unittest.TestCase):
    def test_as_the_document_says_word_by_word(self):
        seen = {}
        for seed in range(1500):
            source = random.Random(seed)
            zone = some_zone(source)
            for step in range(8):
                asked = zone[0] + some_name(source)
                kind = source.choice(KINDS)
                reply = told(zone, asked, kind)
                seen[reply[0]] = seen.get(reply[0], 0) + 1
                with self.subTest(zone=zone, asked=asked, kind=kind):
                    self.assertEqual(reply, plain_told(zone, asked, kind))
                    self.assertEqual(cut_of(zone, asked), plain_cut(zone, asked))
                    self.assertIs(stands(zone, asked), plain_stands(zone, asked))
        for word in ("down", "else", "rows", "empty", "none"):
            self.assertGreater(seen[word], 100, word)

    def test_three_hundred_rows(self):
        rows = [((f"w{number}",) * (number % 10 + 1), number, "text", f"v{number}") for number in range(298)]
        zone = ((), 5, rows + [(("*",), 1, "seal", "s"), (("cut",), 1, "down", ("h",))])
        for number in range(298):
            asked = (f"w{number}",) * (number % 10 + 1)
            self.assertEqual(told(zone, asked, "text"), ("rows", [f"v{number}"], number))
            self.assertEqual(told(zone, asked + ("x",), "text"), ("none", 5))
        self.assertEqual(told(zone, ("x", "y"), "seal"), ("rows", ["s"], 1))
        self.assertEqual(told(zone, ("cut", "y"), "seal"), ("down", ("cut",), ("h",), [], 1))


if __name__ == "__main__":
    unittest.main()
