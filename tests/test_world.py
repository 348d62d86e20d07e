import copy
import random
import unittest

from namewell.errors import NoZone
from namewell.houses import asked
from namewell.world import World
from tests.worlds import KINDS, arguments, house, name, own_lists, some_houses, some_name, some_place, some_zone, \
    spoil, world_of

ROOT, NORTH, OTHER_NORTH, SOUTH = house(
    "zone . 9\nold 1 else mill.north\nx 2 text v\n 3 text u", "zone north. 8\nmill 4 text oak\nto 1 else mill",
    "zone north. 7\nmill 5 text ash", "zone south. 6\ninn 3 else mill.north.")


def zones_by_top(houses):
    """houses, whatever the order of the zones in a list"""
    return {door: sorted(houses[door], key=lambda zone: zone[0]) for door in houses}


class WorldCase(unittest.TestCase):
    def setUp(self):
        self.world = World("r")

    def has(self, turn, houses, asks=0):
        self.assertEqual(self.world.root(), "r")
        self.assertEqual(self.world.turn(), turn)
        self.assertEqual(zones_by_top(self.world.houses()), zones_by_top(houses))
        self.assertEqual(self.world.asks(), asks)


class InterfaceTest(unittest.TestCase):
    def test_arguments(self):
        for function, expected in (
            (World, ["root"]), (World.root, []), (World.turn, []), (World.asks, []), (World.houses, []),
            (World.put, ["door", "zone"]), (World.drop, ["door", "T"]), (World.wait, ["turns"]),
            (World.ask, ["door", "T", "N", "K"]),
        ):
            with self.subTest(function):
                self.assertEqual(arguments(function), expected)


class TurnTest(WorldCase):
    def test_at_first(self):
        self.has(0, {})
        self.assertEqual(World("d~!").root(), "d~!")

    def test_put(self):
        self.world.put("r", ROOT)
        self.has(1, {"r": [ROOT]})
        self.world.put("d", NORTH)
        self.has(2, {"r": [ROOT], "d": [NORTH]})
        self.world.put("r", SOUTH)
        self.has(3, {"r": [ROOT, SOUTH], "d": [NORTH]})

    def test_put_in_the_place_of_one_with_the_same_top(self):
        self.world.put("d", NORTH)
        self.world.put("d", SOUTH)
        self.world.put("d", OTHER_NORTH)
        self.has(3, {"d": [SOUTH, OTHER_NORTH]})
        # even of the very same one a turn comes
        self.world.put("d", OTHER_NORTH)
        self.has(4, {"d": [SOUTH, OTHER_NORTH]})

    def test_the_same_top_behind_another_door_is_another_zone(self):
        self.world.put("d", NORTH)
        self.world.put("e", OTHER_NORTH)
        self.has(2, {"d": [NORTH], "e": [OTHER_NORTH]})
        self.world.drop("d", ("north",))
        self.has(3, {"e": [OTHER_NORTH]})

    def test_drop(self):
        self.world = world_of({"d": [NORTH, SOUTH], "r": [ROOT]})
        self.world.drop("d", ("north",))
        self.has(4, {"d": [SOUTH], "r": [ROOT]})
        self.world.drop("r", ())
        self.has(5, {"d": [SOUTH]})

    def test_a_house_whose_last_zone_is_dropped(self):
        self.world = world_of({"d": [NORTH]})
        self.world.drop("d", ("north",))
        self.has(2, {})
        self.world.put("d", SOUTH)
        self.has(3, {"d": [SOUTH]})

    def test_a_zone_that_is_not_there_to_be_dropped(self):
        self.world = world_of({"d": [NORTH, SOUTH], "r": [ROOT]})
        self.world.ask("d", ("north",), name("mill.north"), "text")
        for door, text in (("d", ""), ("d", "mill.north"), ("d", "x.south"), ("r", "north"), ("e", "north"), ("D", "")):
            with self.subTest(door=door, text=text), self.assertRaises(NoZone):
                self.world.drop(door, name(text))
            self.has(3, {"d": [NORTH, SOUTH], "r": [ROOT]}, 1)
        self.world.drop("d", ("north",))
        with self.assertRaises(NoZone):
            self.world.drop("d", ("north",))
        self.world.drop("d", ("south",))
        with self.assertRaises(NoZone):
            self.world.drop("d", ("south",))
        self.has(5, {"r": [ROOT]}, 1)

    def test_wait(self):
        self.world.put("r", ROOT)
        for turns, turn in ((0, 1), (1, 2), (0, 2), (50, 52), (999999999, 1000000051)):
            self.world.wait(turns)
            self.has(turn, {"r": [ROOT]})

    def test_a_late_turn(self):
        for step in range(10 ** 6):
            self.world.wait(999999999)
        self.world.wait(10 ** 6 - 1)
        self.world.put("r", ROOT)
        self.has(10 ** 15, {"r": [ROOT]})

    def test_two_worlds_are_two(self):
        other = World("r")
        other.put("r", ROOT)
        other.ask("r", (), ("x",), "text")
        self.has(0, {})


class AskTest(WorldCase):
    def test_as_houses_are_asked(self):
        self.world = world_of({"d": [NORTH, SOUTH], "r": [ROOT, NORTH]})
        houses = {"d": [NORTH, SOUTH], "r": [ROOT, NORTH]}
        for many, (door, top, text, kind) in enumerate((
            ("r", "", "x", "text"), ("r", "", "x", "seal"), ("r", "", "old", "text"),
            ("d", "north", "to.north", "text"), ("d", "south", "inn.south", "text"), ("d", "south", "y.south", "text"),
        ), 1):
            answer = self.world.ask(door, name(top), name(text), kind)
            self.assertEqual(answer, asked(houses, door, name(top), name(text), kind))
            self.assertNotEqual(answer[0], ("away",))
            self.has(4, houses, many)

    def test_with_what_is_told_beside(self):
        self.world = world_of({"d": [NORTH, SOUTH]})
        self.assertEqual(self.world.ask("d", ("south",), name("inn.south"), "text"), (
            ("else", name("mill.north"), 3), [(("north",), name("mill.north"), "text", ("rows", ["oak"], 4))]))

    def test_without_a_house_it_is_counted_too(self):
        self.assertEqual(self.world.ask("r", (), ("x",), "text"), (("away",), []))
        self.has(0, {}, 1)
        self.world.put("d", NORTH)
        self.assertEqual(self.world.ask("e", ("north",), name("mill.north"), "text"), (("away",), []))
        self.assertEqual(self.world.ask("d", (), name("mill.north"), "text"), (("away",), []))
        self.has(1, {"d": [NORTH]}, 3)

    def test_what_is_put_or_dropped_holds_from_then_on(self):
        question = name("mill.north")
        self.world.put("d", NORTH)
        self.assertEqual(self.world.ask("d", ("north",), question, "text")[0], ("rows", ["oak"], 4))
        self.world.put("d", OTHER_NORTH)
        self.assertEqual(self.world.ask("d", ("north",), question, "text")[0], ("rows", ["ash"], 5))
        self.world.drop("d", ("north",))
        self.assertEqual(self.world.ask("d", ("north",), question, "text")[0], ("away",))
        self.world.put("d", NORTH)
        self.assertEqual(self.world.ask("d", ("north",), question, "text")[0], ("rows", ["oak"], 4))
        self.has(4, {"d": [NORTH]}, 4)

    def test_what_is_told_beside_changes_with_each_zone(self):
        first, second, third = house(
            "zone a. 5\nx 1 else y.b.\nz 1 text v", "zone b. 5\ny 1 else z.a.", "zone b. 5\ny 1 text w")
        beside = (("b",), name("y.b"), "text")
        self.world.put("d", first)
        for deed, expected in (
            (lambda: None, []),
            (lambda: self.world.put("d", second), [
                beside + (("else", name("z.a"), 1),), (("a",), name("z.a"), "text", ("rows", ["v"], 1))]),
            (lambda: self.world.put("d", third), [beside + (("rows", ["w"], 1),)]),
            (lambda: self.world.put("d", second), [
                beside + (("else", name("z.a"), 1),), (("a",), name("z.a"), "text", ("rows", ["v"], 1))]),
            # now a longer top has say of the name
            (lambda: self.world.put("d", (name("y.b"), 7, [])), [
                (name("y.b"), name("y.b"), "text", ("empty", 7))]),
            (lambda: self.world.drop("d", name("y.b")), [
                beside + (("else", name("z.a"), 1),), (("a",), name("z.a"), "text", ("rows", ["v"], 1))]),
            (lambda: self.world.drop("d", ("b",)), []),
        ):
            deed()
            for again in range(2):
                self.assertEqual(self.world.ask("d", ("a",), name("x.a"), "text"), (("else", name("y.b"), 1), expected))

    def test_no_kind_is_told_for_another(self):
        first, second = house("zone a. 5\nx 1 else y.b.", "zone b. 5\ny 1 else z\nz 1 text w\n 1 seal s")
        self.world = world_of({"d": [first, second]})
        for kind, reply in (("text", ("rows", ["w"], 1)), ("seal", ("rows", ["s"], 1)), ("door", ("empty", 5))):
            self.assertEqual(self.world.ask("d", ("a",), name("x.a"), kind), (("else", name("y.b"), 1), [
                (("b",), name("y.b"), kind, ("else", name("z.b"), 1)), (("b",), name("z.b"), kind, reply)]))


class OwnershipTest(WorldCase):
    def test_what_is_handed_in_is_not_changed(self):
        zones = copy.deepcopy([ROOT, NORTH, OTHER_NORTH, SOUTH])
        for zone in zones:
            self.world.put("d", zone)
        self.world.ask("d", ("south",), name("inn.south"), "text")
        spoil(self.world.houses())
        self.world.drop("d", ("north",))
        self.assertEqual(zones, [ROOT, NORTH, OTHER_NORTH, SOUTH])

    def test_a_zone_changed_behind_the_call(self):
        for asked_ahead in (False, True):
            zone = copy.deepcopy(NORTH)
            world = world_of({"d": [zone]})
            if asked_ahead:
                world.ask("d", ("north",), name("mill.north"), "text")
            spoil(zone)
            self.assertEqual(world.houses(), {"d": [NORTH]})
            self.assertEqual(world.ask("d", ("north",), name("mill.north"), "text")[0], ("rows", ["oak"], 4))
            self.assertEqual(world.ask("d", ("north",), name("x.north"), "text")[0], ("none", 8))

    def test_one_zone_put_behind_two_doors(self):
        zone = copy.deepcopy(NORTH)
        self.world.put("d", zone)
        self.world.put("e", zone)
        own_lists(self, self.world.houses, 5)

    def test_lists_are_the_askers_own(self):
        self.world = world_of({"d": [NORTH, SOUTH], "r": [ROOT]})
        own_lists(self, self.world.houses, 6)
        for door, top, text, many in (
            ("r", "", "x", 2), ("d", "south", "inn.south", 2), ("d", "north", "to.north", 2), ("e", "", "x", 1),
        ):
            own_lists(self, lambda: self.world.ask(door, name(top), name(text), "text"), many)
        self.assertEqual(zones_by_top(self.world.houses()), zones_by_top({"d": [NORTH, SOUTH], "r": [ROOT]}))

    def test_what_was_told_stays_whatever_is_done_later(self):
        self.world = world_of({"d": [NORTH, SOUTH]})
        houses = self.world.houses()
        answer = self.world.ask("d", ("south",), name("inn.south"), "text")
        expected = copy.deepcopy((houses, answer))
        self.world.put("d", OTHER_NORTH)
        self.world.drop("d", ("south",))
        self.world.put("e", SOUTH)
        self.assertEqual((houses, answer), expected)


class ChanceTest(unittest.TestCase):
    def test_as_the_document_says_word_by_word(self):
        besides = 0
        for seed in range(60):
            source = random.Random(seed)
            world = World("r")
            houses = {}
            turn = 0
            asks = 0
            zones = [zone for some in some_houses(source).values() for zone in some]
            for step in range(60):
                deed = source.randint(0, 9)
                door = source.choice(("r", "d0", "d1"))
                top = some_name(source, 2)
                tops = [zone[0] for zone in houses.get(door, [])]
                if deed < 4:
                    zone = source.choice(zones) if zones and source.randint(0, 3) else some_zone(source)
                    houses[door] = [one for one in houses.get(door, []) if one[0] != zone[0]] + [zone]
                    world.put(door, zone)
                    turn += 1
                elif deed == 4 and top in tops:
                    houses[door] = [one for one in houses[door] if one[0] != top]
                    world.drop(door, top)
                    turn += 1
                elif deed == 4:
                    self.assertRaises(NoZone, world.drop, door, top)
                elif deed == 5:
                    world.wait(step)
                    turn += step
                else:
                    question = top + some_name(source, 2)
                    if tops and source.randint(0, 5):
                        zone = source.choice(houses[door])
                        top = zone[0]
                        question = some_place(source, zone)
                    answer = world.ask(door, top, question, KINDS[step % 3])
                    self.assertEqual(answer, asked(houses, door, top, question, KINDS[step % 3]))
                    asks += 1
                    besides += len(answer[1]) > 0
                houses = {one: houses[one] for one in houses if houses[one]}
                self.assertEqual(zones_by_top(world.houses()), zones_by_top(houses))
                self.assertEqual((world.turn(), world.asks()), (turn, asks))
        self.assertGreater(besides, 50)


if __name__ == "__main__":
    unittest.main()
