import copy
import random
import unittest

from namewell.memory import Memory, key_of
from tests.worlds import KINDS, PlainMemory, arguments, name, own_lists, some_name, spoil

CUT = ("cut", ("n",))


def ground(turn, text, kind, reply, door="r", top=()):
    return (turn, door, top, name(text), kind, reply)


def rows(turn, text, life, *values):
    return ground(turn, text, "text", ("rows", list(values), life))


def none(turn, text, life):
    return ground(turn, text, "text", ("none", life))


def other(turn, text, life, to):
    return ground(turn, text, "text", ("else", name(to), life))


def down(turn, text, life, *doors):
    return ground(turn, "x." + text, "text", ("down", name(text), name("h." + text), list(doors), life))


class InterfaceTest(unittest.TestCase):
    def test_arguments(self):
        for function, expected in (
            (key_of, ["ground"]), (Memory, []), (Memory.keep, ["ground", "rests"]), (Memory.known, ["N", "K", "turn"]),
            (Memory.handed, ["N", "turn"]), (Memory.until, ["key", "turn"]), (Memory.forget, ["turn"]),
            (Memory.clear, []), (Memory.many, []), (Memory.grounds, ["keys"]),
        ):
            with self.subTest(function):
                self.assertEqual(arguments(function), expected)


class KeyTest(unittest.TestCase):
    def test_keys(self):
        a = name("a.b")
        for reply, key in (
            (("rows", ["v"], 5), ("asked", a, "text")),
            (("empty", 5), ("asked", a, "text")),
            (("else", name("c"), 5), ("name", a)),
            (("none", 5), ("name", a)),
            (("down", ("b",), name("h"), [], 5), ("cut", ("b",))),
            (("down", a, name("h"), ["d"], 5), ("cut", a)),
        ):
            with self.subTest(reply):
                self.assertEqual(key_of(ground(3, "a.b", "text", reply)), key)
                self.assertEqual(key_of(ground(4, "a.b", "text", reply, "d", ("b",))), key)
        self.assertEqual(key_of(ground(3, "a.b", "door", ("empty", 5))), ("asked", a, "door"))
        self.assertEqual(key_of(ground(3, "a.b", "door", ("none", 5))), ("name", a))
        self.assertEqual(key_of(ground(3, "", "door", ("none", 5))), ("name", ()))


class KeepTest(unittest.TestCase):
    def setUp(self):
        self.memory = Memory()

    def test_nothing_at_first(self):
        self.assertEqual(self.memory.many(), 0)
        self.assertIsNone(self.memory.known(("a",), "text", 0))
        self.assertIsNone(self.memory.handed(("a",), 0))
        self.assertIsNone(self.memory.until(("name", ("a",)), 0))
        self.assertEqual(self.memory.forget(10 ** 15), 0)
        self.assertEqual(self.memory.grounds([]), [])

    def test_the_last_turn_and_the_next(self):
        self.memory.keep(rows(10, "a", 5, "v"), [])
        key = ("asked", ("a",), "text")
        for turn in (10, 11, 14, 15):
            self.assertEqual(self.memory.known(("a",), "text", turn), rows(10, "a", 5, "v"))
            self.assertEqual(self.memory.until(key, turn), 15)
        for turn in (16, 17, 10 ** 15):
            self.assertIsNone(self.memory.known(("a",), "text", turn))
            self.assertIsNone(self.memory.until(key, turn))
        self.assertEqual(self.memory.many(), 1)

    def test_a_life_of_nought_and_the_longest(self):
        self.memory.keep(rows(10, "a", 0, "v"), [])
        self.memory.keep(none(10, "b", 999999999), [])
        self.assertEqual(self.memory.until(("asked", ("a",), "text"), 10), 10)
        self.assertIsNone(self.memory.until(("asked", ("a",), "text"), 11))
        self.assertEqual(self.memory.until(("name", ("b",)), 10 ** 9 + 9), 10 ** 9 + 9)
        self.assertIsNone(self.memory.until(("name", ("b",)), 10 ** 9 + 10))

    def test_the_down_hands_on_as_long_as_it_holds(self):
        self.memory.keep(down(10, "n", 5, "d"), [])
        self.assertEqual(self.memory.handed(name("a.n"), 15), down(10, "n", 5, "d"))
        self.assertIsNone(self.memory.handed(name("a.n"), 16))

    def test_not_where_one_by_its_key_holds(self):
        self.memory.keep(rows(10, "a", 5, "v"), [])
        for turn in (10, 12, 15):
            self.memory.keep(rows(turn, "a", 500, "w"), [])
            self.assertEqual(self.memory.known(("a",), "text", turn), rows(10, "a", 5, "v"))
            self.assertEqual(self.memory.until(("asked", ("a",), "text"), turn), 15)
        self.assertEqual(self.memory.many(), 1)

    def test_one_key_for_two_replies(self):
        self.memory.keep(rows(10, "a", 5, "v"), [])
        self.memory.keep(ground(10, "a", "text", ("empty", 50)), [])
        self.assertEqual(self.memory.known(("a",), "text", 10), rows(10, "a", 5, "v"))
        self.memory.keep(other(10, "b", 5, "c"), [])
        self.memory.keep(none(10, "b", 50), [])
        self.memory.keep(ground(10, "b", "door", ("none", 50)), [])
        self.assertEqual(self.memory.known(("b",), "text", 10), other(10, "b", 5, "c"))
        self.memory.keep(down(10, "n", 5, "d"), [])
        self.memory.keep(ground(10, "y.n", "door", ("down", ("n",), ("q",), ["e"], 50)), [])
        self.assertEqual(self.memory.handed(("n",), 10), down(10, "n", 5, "d"))
        self.assertEqual(self.memory.many(), 3)

    def test_keys_that_differ(self):
        self.memory.keep(rows(10, "a", 5, "v"), [])
        self.memory.keep(ground(10, "a", "door", ("rows", ["d"], 5)), [])
        self.memory.keep(rows(10, "b.a", 5, "w"), [])
        self.memory.keep(none(10, "a", 5), [])
        self.assertEqual(self.memory.many(), 4)

    def test_in_the_place_of_one_that_does_not_hold(self):
        self.memory.keep(rows(10, "a", 5, "v"), [])
        self.memory.keep(rows(16, "a", 3, "w"), [])
        self.assertEqual(self.memory.many(), 1)
        self.assertEqual(self.memory.known(("a",), "text", 16), rows(16, "a", 3, "w"))
        self.assertEqual(self.memory.until(("asked", ("a",), "text"), 16), 19)
        self.memory.keep(other(20, "b", 0, "c"), [])
        self.memory.keep(none(21, "b", 4), [])
        self.assertEqual(self.memory.known(("b",), "text", 21), none(21, "b", 4))
        self.assertEqual(self.memory.many(), 2)

    def test_what_it_rests_on_bounds_it(self):
        self.memory.keep(down(10, "n", 5, "d"), [])
        self.memory.keep(rows(11, "a.n", 100, "v"), [CUT])
        self.memory.keep(rows(12, "b.n", 2, "v"), [CUT])
        self.memory.keep(down(12, "m.n", 50), [CUT])
        self.memory.keep(rows(13, "c.m.n", 50, "v"), [("cut", name("m.n")), ("asked", name("b.n"), "text")])
        self.assertEqual(self.memory.until(("asked", name("a.n"), "text"), 13), 15)
        self.assertEqual(self.memory.until(("asked", name("b.n"), "text"), 13), 14)
        self.assertEqual(self.memory.until(("cut", name("m.n")), 13), 15)
        self.assertEqual(self.memory.until(("asked", name("c.m.n"), "text"), 13), 14)
        self.assertIsNone(self.memory.known(name("a.n"), "text", 16))

    def test_it_stays_fixed_when_what_it_rests_on_is_kept_anew(self):
        self.memory.keep(down(10, "n", 5, "d"), [])
        self.memory.keep(rows(11, "a.n", 100, "v"), [CUT])
        self.memory.keep(down(16, "n", 50, "d"), [])
        self.assertEqual(self.memory.until(CUT, 16), 66)
        self.assertIsNone(self.memory.until(("asked", name("a.n"), "text"), 16))
        self.assertIsNone(self.memory.known(name("a.n"), "text", 16))
        self.memory.keep(rows(16, "a.n", 100, "w"), [CUT])
        self.assertEqual(self.memory.until(("asked", name("a.n"), "text"), 16), 66)

    def test_not_where_what_it_rests_on_is_not_there(self):
        self.memory.keep(rows(10, "a.n", 5, "v"), [CUT])
        self.assertEqual(self.memory.many(), 0)
        self.memory.keep(down(10, "n", 5, "d"), [])
        self.memory.keep(rows(10, "a.n", 5, "v"), [CUT, ("cut", ("m",))])
        self.memory.keep(rows(10, "a.n", 5, "v"), [("cut", ("m",)), CUT])
        self.memory.keep(rows(10, "a.n", 5, "v"), [("name", ("n",))])
        self.assertEqual(self.memory.many(), 1)

    def test_not_where_what_it_rests_on_holds_no_more(self):
        self.memory.keep(down(10, "n", 5, "d"), [])
        self.memory.keep(rows(16, "a.n", 5, "v"), [CUT])
        self.assertEqual(self.memory.many(), 1)
        self.assertIsNone(self.memory.known(name("a.n"), "text", 16))
        self.memory.clear()
        self.memory.keep(down(17, "n", 5, "d"), [])
        self.memory.keep(rows(22, "a.n", 5, "v"), [CUT])
        self.assertEqual(self.memory.until(("asked", name("a.n"), "text"), 22), 22)

    def test_what_is_not_kept_leaves_the_old_one_where_it_is(self):
        self.memory.keep(rows(10, "a", 0, "v"), [])
        self.memory.keep(rows(11, "b", 9, "w"), [])
        self.memory.keep(rows(11, "a", 5, "v"), [CUT])
        self.assertIsNone(self.memory.known(("a",), "text", 11))
        self.assertEqual(self.memory.many(), 2)
        self.assertEqual(self.memory.forget(11), 1)

    def test_not_even_on_itself(self):
        self.memory.keep(rows(10, "a", 5, "v"), [("asked", ("a",), "text")])
        self.assertEqual(self.memory.many(), 0)


class KnownTest(unittest.TestCase):
    def setUp(self):
        self.memory = Memory()

    def test_by_name_and_kind_ahead_of_the_name(self):
        self.memory.keep(other(10, "a", 50, "c"), [])
        self.assertEqual(self.memory.known(("a",), "text", 10), other(10, "a", 50, "c"))
        self.assertEqual(self.memory.known(("a",), "door", 10), other(10, "a", 50, "c"))
        self.memory.keep(rows(10, "a", 5, "v"), [])
        self.assertEqual(self.memory.known(("a",), "text", 10), rows(10, "a", 5, "v"))
        self.assertEqual(self.memory.known(("a",), "door", 10), other(10, "a", 50, "c"))
        self.assertEqual(self.memory.known(("a",), "text", 16), other(10, "a", 50, "c"))

    def test_the_name_ahead_of_those_above(self):
        self.memory.keep(none(10, "a", 50), [])
        self.memory.keep(other(10, "b.a", 5, "c"), [])
        self.assertEqual(self.memory.known(name("b.a"), "text", 10), other(10, "b.a", 5, "c"))
        self.assertEqual(self.memory.known(name("b.a"), "text", 16), none(10, "a", 50))
        self.memory.keep(rows(10, "d.a", 5, "v"), [])
        self.assertEqual(self.memory.known(name("d.a"), "text", 10), rows(10, "d.a", 5, "v"))
        self.assertEqual(self.memory.known(name("d.a"), "door", 10), none(10, "a", 50))

    def test_none_of_the_longest_name_above(self):
        self.memory.keep(none(10, "b.a", 5), [])
        self.memory.keep(none(10, "a", 7), [])
        self.memory.keep(none(10, "", 9), [])
        for kind in ("text", "door"):
            self.assertEqual(self.memory.known(name("d.c.b.a"), kind, 10), none(10, "b.a", 5))
            self.assertEqual(self.memory.known(name("b.a"), kind, 15), none(10, "b.a", 5))
            self.assertEqual(self.memory.known(name("d.c.b.a"), kind, 16), none(10, "a", 7))
            self.assertEqual(self.memory.known(name("x.a"), kind, 10), none(10, "a", 7))
            self.assertEqual(self.memory.known(name("x.a"), kind, 18), none(10, "", 9))
            self.assertEqual(self.memory.known((), kind, 10), none(10, "", 9))
            self.assertIsNone(self.memory.known(name("x.a"), kind, 20))

    def test_of_names_above_none_alone(self):
        self.memory.keep(none(10, "a", 5), [])
        self.memory.keep(other(10, "b.a", 5, "c"), [])
        self.memory.keep(rows(10, "c.b.a", 5, "v"), [])
        self.memory.keep(ground(10, "d.c.b.a", "text", ("empty", 5)), [])
        self.assertEqual(self.memory.known(name("e.d.c.b.a"), "text", 10), none(10, "a", 5))
        self.memory.clear()
        self.memory.keep(other(10, "b.a", 5, "c"), [])
        self.memory.keep(down(10, "a", 5), [])
        self.assertIsNone(self.memory.known(name("c.b.a"), "text", 10))
        self.assertIsNone(self.memory.known(name("x.a"), "text", 10))

    def test_nothing_of_names_beneath_or_beside(self):
        self.memory.keep(none(10, "b.a", 5), [])
        for text in ("a", "", "c.a", "b", "bb.a", "a.b"):
            self.assertIsNone(self.memory.known(name(text), "text", 10))

    def test_an_empty_reply_is_known(self):
        self.memory.keep(ground(10, "a", "text", ("empty", 5)), [])
        self.assertEqual(self.memory.known(("a",), "text", 10), ground(10, "a", "text", ("empty", 5)))
        self.assertIsNone(self.memory.known(("a",), "door", 10))

    def test_handed_at_the_longest_cut(self):
        self.memory.keep(down(10, "a", 50, "d"), [])
        self.memory.keep(down(10, "b.a", 5), [])
        self.memory.keep(none(10, "c.b.a", 50), [])
        for text in ("b.a", "c.b.a", "d.c.b.a"):
            self.assertEqual(self.memory.handed(name(text), 10), down(10, "b.a", 5))
            self.assertEqual(self.memory.handed(name(text), 16), down(10, "a", 50, "d"))
        self.assertEqual(self.memory.handed(name("a"), 10), down(10, "a", 50, "d"))
        self.assertEqual(self.memory.handed(name("x.a"), 10), down(10, "a", 50, "d"))
        self.assertIsNone(self.memory.handed((), 10))
        self.assertIsNone(self.memory.handed(("b",), 10))
        self.assertIsNone(self.memory.handed(("aa",), 10))
        self.assertIsNone(self.memory.handed(name("x.a"), 61))

    def test_until_of_the_key_alone(self):
        self.memory.keep(none(10, "a", 5), [])
        self.assertEqual(self.memory.until(("name", ("a",)), 12), 15)
        self.assertIsNone(self.memory.until(("name", ("a", "b")), 12))
        self.assertIsNone(self.memory.until(("asked", ("a",), "text"), 12))
        self.assertIsNone(self.memory.until(("cut", ("a",)), 12))


class LettingGoTest(unittest.TestCase):
    def setUp(self):
        self.memory = Memory()
        self.memory.keep(rows(10, "a", 0, "v"), [])
        self.memory.keep(rows(10, "b", 5, "v"), [])
        self.memory.keep(down(10, "n", 7, "d"), [])
        self.memory.keep(rows(10, "c.n", 50, "v"), [CUT])

    def test_what_does_not_hold_is_still_counted(self):
        self.assertIsNone(self.memory.known(("a",), "text", 100))
        self.assertIsNone(self.memory.handed(name("c.n"), 100))
        self.assertEqual(self.memory.many(), 4)

    def test_forget(self):
        self.assertEqual(self.memory.forget(10), 0)
        self.assertEqual(self.memory.many(), 4)
        self.assertEqual(self.memory.forget(11), 1)
        self.assertEqual(self.memory.forget(11), 0)
        self.assertEqual(self.memory.forget(15), 0)
        self.assertEqual(self.memory.forget(16), 1)
        self.assertEqual(self.memory.many(), 2)
        self.assertEqual(self.memory.known(name("c.n"), "text", 17), rows(10, "c.n", 50, "v"))
        self.assertEqual(self.memory.forget(17), 0)
        self.assertEqual(self.memory.forget(18), 2)
        self.assertEqual(self.memory.many(), 0)

    def test_forget_several(self):
        self.assertEqual(self.memory.forget(10 ** 15), 4)
        self.assertEqual(self.memory.many(), 0)

    def test_clear(self):
        self.memory.clear()
        self.assertEqual(self.memory.many(), 0)
        self.assertIsNone(self.memory.known(("b",), "text", 10))
        self.assertIsNone(self.memory.handed(name("c.n"), 10))
        self.assertIsNone(self.memory.until(CUT, 10))
        self.assertEqual(self.memory.forget(10), 0)
        self.memory.keep(rows(10, "c.n", 50, "v"), [CUT])
        self.assertEqual(self.memory.many(), 0)
        self.memory.keep(rows(10, "b", 1, "w"), [])
        self.assertEqual(self.memory.known(("b",), "text", 11), rows(10, "b", 1, "w"))

    def test_two_memories_are_two(self):
        self.assertEqual(Memory().many(), 0)
        Memory().clear()
        self.assertEqual(self.memory.many(), 4)


class GroundsTest(unittest.TestCase):
    def setUp(self):
        self.memory = Memory()
        self.first = rows(1, "z", 90, "v")
        self.down = down(2, "n", 90)
        self.other = other(3, "h.n", 90, "i")
        self.door = ground(4, "i", "door", ("rows", ["d"], 90))
        self.low = ground(5, "a.n", "text", ("rows", ["w"], 90), "d", ("n",))
        self.lower = ground(6, "b.n", "text", ("none", 90), "d", ("n",))
        self.rests = [CUT, ("name", name("h.n")), ("asked", ("i",), "door")]
        for one, rests in ((self.first, []), (self.down, []), (self.other, []), (self.door, []), (self.low, self.rests),
                           (self.lower, [key_of(self.low)])):
            self.memory.keep(one, rests)

    def test_all_on_which_they_rest(self):
        chain = [self.down, self.other, self.door, self.low]
        self.assertEqual(self.memory.grounds([key_of(self.low)]), chain)
        self.assertEqual(self.memory.grounds([key_of(self.lower)]), chain + [self.lower])
        self.assertEqual(self.memory.grounds([CUT]), [self.down])
        self.assertEqual(self.memory.grounds([]), [])

    def test_each_once_in_the_order_in_which_they_were_kept(self):
        keys = [key_of(self.lower), key_of(self.first), CUT, key_of(self.low), CUT, key_of(self.first)]
        expected = [self.first, self.down, self.other, self.door, self.low, self.lower]
        self.assertEqual(self.memory.grounds(keys), expected)
        self.assertEqual(self.memory.grounds(list(reversed(keys))), expected)

    def test_one_that_was_kept_anew_counts_from_then(self):
        memory = Memory()
        memory.keep(rows(1, "a", 3, "v"), [])
        memory.keep(rows(2, "b", 50, "v"), [])
        keys = [("asked", ("a",), "text"), ("asked", ("b",), "text")]
        self.assertEqual(memory.grounds(keys), [rows(1, "a", 3, "v"), rows(2, "b", 50, "v")])
        memory.keep(rows(4, "a", 9, "w"), [])
        self.assertEqual(memory.grounds(keys), [rows(1, "a", 3, "v"), rows(2, "b", 50, "v")])
        memory.keep(rows(5, "a", 9, "w"), [])
        self.assertEqual(memory.grounds(keys), [rows(2, "b", 50, "v"), rows(5, "a", 9, "w")])

    def test_kept_anew_behind_forget_and_clear(self):
        memory = Memory()
        keys = [("asked", ("a",), "text"), ("asked", ("b",), "text")]
        memory.keep(rows(1, "a", 3, "v"), [])
        memory.keep(rows(2, "b", 50, "v"), [])
        memory.forget(5)
        memory.keep(rows(5, "a", 9, "w"), [])
        self.assertEqual(memory.grounds(keys), [rows(2, "b", 50, "v"), rows(5, "a", 9, "w")])
        memory.clear()
        memory.keep(rows(6, "b", 9, "y"), [])
        memory.keep(rows(6, "a", 9, "x"), [])
        self.assertEqual(memory.grounds(keys), [rows(6, "b", 9, "y"), rows(6, "a", 9, "x")])

    def test_what_was_not_kept_changes_nothing_of_what_one_rests_on(self):
        self.memory.keep(ground(7, "a.n", "text", ("rows", ["x"], 90)), [key_of(self.first)])
        self.assertEqual(self.memory.grounds([key_of(self.low)]), [self.down, self.other, self.door, self.low])

    def test_a_long_chain(self):
        memory = Memory()
        rests = []
        for number in range(5000):
            one = ground(number, f"w{number}", "text", ("empty", 9000))
            memory.keep(one, rests)
            # on two each, so that there are very many ways back to the first
            rests = rests[-1:] + [key_of(one)]
        told = memory.grounds(rests[-1:])
        self.assertEqual([one[0] for one in told], list(range(5000)))
        self.assertEqual(memory.until(rests[-1], 5000), 9000)


class OwnershipTest(unittest.TestCase):
    def test_what_is_handed_in_is_not_changed(self):
        memory = Memory()
        for given, rests in (
            (down(1, "n", 9, "d"), []), (rows(1, "a.n", 9, "v", "w"), [CUT]), (rows(9, "q", 9), [CUT, CUT]),
        ):
            wanted = copy.deepcopy((given, rests))
            memory.keep(given, rests)
            self.assertEqual((given, rests), wanted)
        keys = [("asked", name("a.n"), "text"), CUT]
        memory.grounds(keys)
        self.assertEqual(keys, [("asked", name("a.n"), "text"), CUT])

    def test_changed_behind_the_call(self):
        memory = Memory()
        handed = down(1, "n", 9, "d")
        given = rows(1, "a.n", 9, "v", "w")
        rests = [CUT]
        memory.keep(handed, [])
        memory.keep(given, rests)
        for one in (handed, given, rests):
            spoil(one)
        self.assertEqual(memory.known(name("a.n"), "text", 1), rows(1, "a.n", 9, "v", "w"))
        self.assertEqual(memory.handed(name("a.n"), 1), down(1, "n", 9, "d"))
        self.assertEqual(memory.grounds([("asked", name("a.n"), "text")]), [
            down(1, "n", 9, "d"), rows(1, "a.n", 9, "v", "w")])

    def test_lists_are_the_askers_own(self):
        memory = Memory()
        values = ["v", "w"]
        memory.keep(ground(1, "x.n", "text", ("down", ("n",), ("h",), values, 9)), [])
        memory.keep(ground(1, "a.n", "text", ("rows", values, 9)), [CUT])
        for ask, many in (
            (lambda: memory.known(name("a.n"), "text", 1), 1),
            (lambda: memory.handed(name("a.n"), 1), 1),
            (lambda: memory.grounds([("asked", name("a.n"), "text"), CUT]), 3),
        ):
            own_lists(self, ask, many)

    def test_what_was_told_stays_whatever_is_done_later(self):
        memory = Memory()
        memory.keep(rows(1, "a", 2, "v"), [])
        told = memory.grounds([("asked", ("a",), "text")])
        memory.keep(rows(5, "a", 2, "w"), [])
        memory.forget(50)
        memory.clear()
        self.assertEqual(told, [rows(1, "a", 2, "v")])


def some_ground(source, turn):
    question = some_name(source, 3)
    life = source.choice((0, 1, 2, 5, 9, 20))
    reply = source.choice((
        ("rows", ["v"], life), ("empty", life), ("else", some_name(source), life), ("none", life), ("none", life),
        ("down", question[:source.randint(0, 3)], some_name(source), ["d"], life),
    ))
    return (turn, "d", (), question, source.choice(KINDS), reply)


class ChanceTest(unittest.TestCase):
    def test_as_the_document_says_word_by_word(self):
        seen = {"kept": 0, "not kept": 0, "known": 0, "handed": 0, "went": 0, "long": 0}
        for seed in range(150):
            source = random.Random(seed)
            memory = Memory()
            plain = PlainMemory()
            turn = 0
            for step in range(80):
                turn += source.choice((0, 0, 0, 1, 1, 3))
                given = some_ground(source, turn)
                there = sorted([one[0] for one in plain.all if one[3] >= turn or source.randint(0, 5) == 0], key=repr)
                rests = source.choices(there, k=source.randint(0, 2)) if there else []
                before = plain.all
                memory.keep(given, rests)
                plain.keep(given, rests)
                seen["not kept" if plain.all is before else "kept"] += 1
                self.same(source, memory, plain, turn, seen)
        for case, many in seen.items():
            self.assertGreater(many, 100, case)

    def same(self, source, memory, plain, turn, seen):
        self.assertEqual(memory.many(), plain.many())
        for step in range(3):
            question = some_name(source)
            kind = source.choice(KINDS)
            known = memory.known(question, kind, turn)
            handed = memory.handed(question, turn)
            self.assertEqual(known, plain.known(question, kind, turn))
            self.assertEqual(handed, plain.handed(question, turn))
            seen["known"] += known is not None
            seen["handed"] += handed is not None
        for one in plain.all:
            self.assertEqual(memory.until(one[0], turn), plain.until(one[0], turn))
        keys = [one[0] for one in plain.all if one[3] >= turn]
        keys = source.choices(keys, k=source.randint(0, 3)) if keys else []
        told = memory.grounds(keys)
        self.assertEqual(told, plain.grounds(keys))
        seen["long"] += len(told) > 4
        if source.randint(0, 9) == 0:
            went = memory.forget(turn)
            self.assertEqual(went, plain.forget(turn))
            seen["went"] += went
        if source.randint(0, 60) == 0:
            memory.clear()
            plain.clear()


if __name__ == "__main__":
    unittest.main()
