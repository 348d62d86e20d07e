import copy
import unittest

from namewell.asker import Asker
from namewell.looker import looked
from namewell.memory import key_of
from tests.worlds import KINDS, arguments, name, some_change, some_name, some_question, spoil, worlds_by_chance

TURN = 20

# w is only another name for x.a; the door behind the cut at a is found by the other name of h
ELSE_W = (12, "r", (), ("w",), "text", ("else", name("x.a"), 9))
DOWN_A = (13, "r", (), name("q.a"), "seal", ("down", ("a",), ("h",), [], 30))
ELSE_H = (14, "r", (), ("h",), "door", ("else", ("i",), 6))
ROWS_I = (15, "r", (), ("i",), "door", ("rows", ["d", "e"], 5))
ROWS_X = (20, "d", ("a",), name("x.a"), "text", ("rows", ["v", "w"], 0))
GROUNDS = [ELSE_W, DOWN_A, ELSE_H, ROWS_I, ROWS_X]
WAITS = [("asked", ("w",), "text"), ("else", name("x.a"), "text")]

# the cut at b tells its doors
DOWN_B = (19, "r", (), name("y.b"), "text", ("down", ("b",), name("h.b"), ["f", "g"], 1))


def away(door, top, text, kind, turn=TURN):
    return (turn, door, name(top), name(text), kind, ("away",))


def waits_of(text, kind, *steps):
    return [("asked", name(text), kind)] + [(why, name(one), of) for why, one, of in steps]


def plain_known(grounds, question, kind):
    for one in grounds:
        if one[3:5] == (question, kind) and one[5][0] in ("rows", "empty"):
            return one[5]
    for one in grounds:
        if one[3] == question and one[5][0] in ("else", "none"):
            return one[5]
    for length in range(len(question) - 1, -1, -1):
        for one in grounds:
            if one[3] == question[:length] and one[5][0] == "none":
                return one[5]
    return None


def plain_handed(grounds, question):
    for length in range(len(question), -1, -1):
        for one in grounds:
            if one[5][0] == "down" and one[5][1] == question[:length]:
                return one[5]
    return None


def plain_door(grounds, root, top, door):
    """whether the door is found by these grounds"""
    if top == () and door == root:
        return True
    downs = [one[5] for one in grounds if one[5][0] == "down" and one[5][1] == top]
    if not downs:
        return False
    if downs[0][3]:
        return door == downs[0][3][0]
    question = downs[0][2]
    for step in range(len(grounds) + 1):
        reply = plain_known(grounds, question, "door")
        if reply is None or reply[0] in ("empty", "none"):
            return False
        if reply[0] == "rows":
            return door == reply[1][0]
        question = reply[1]
    return False


def plain_looked(root, turn, question, kind, answer):
    """[33], word by word: an empty list where the answer is borne out, else what is wrong with it"""
    word, values, waits, grounds, asks = answer
    wrong = []
    keys = [key_of(one) for one in grounds if one[5] != ("away",)]
    if len(keys) != len(set(keys)):
        wrong.append("two of one key")
    for place, one in enumerate(grounds):
        if one[0] > turn:
            wrong.append("too late")
        if one[5] != ("away",) and one[0] < turn - one[5][-1]:
            wrong.append("too early")
        if one[5] == ("away",) and (place != len(grounds) - 1 or one[0] != turn):
            wrong.append("away")
        if one[3][:len(one[2])] != one[2]:
            wrong.append("outside")
        if not plain_door(grounds[:place], root, one[2], one[1]):
            wrong.append("door")
    if not waits or waits[0] != ("asked", question, kind):
        return wrong + ["begin"]
    for one, behind in zip(waits, waits[1:]):
        known = plain_known(grounds, one[1], one[2])
        handed = plain_handed(grounds, one[1])
        by_else = known is not None and known[0] == "else" and behind == ("else", known[1], one[2])
        by_door = handed is not None and handed[3] == [] and behind == ("door", handed[2], "door")
        if not by_else and not by_door:
            wrong.append("led")
    alike = [place for place, one in enumerate(waits) if one[1:] in [other[1:] for other in waits[:place]]]
    if alike != ([len(waits) - 1] if word == "ring" else []):
        wrong.append("alike")
    last = waits[-1]
    known = plain_known(grounds, last[1], last[2])
    doors = [one for one in waits if one[0] == "door"]
    handed = plain_handed(grounds, last[1])
    top = () if handed is None else handed[1]
    aways = [one for one in grounds if one[5] == ("away",) and one[2:5] == (top,) + last[1:]]
    if word in ("rows", "empty", "none"):
        right = not doors and known is not None and known[0] == word
    elif word == "lost":
        right = known is not None and known[0] in ("empty", "none") and doors or known is None and aways
    else:
        right = word == "ring"
    if not right:
        wrong.append("word")
    elif values != (known[1] if word == "rows" else []):
        wrong.append("values")
    return wrong


class LookerCase(unittest.TestCase):
    def look(self, expected, word, values, waits, grounds, turn=TURN, root="r"):
        question = (("w",), "text") if not waits else waits[0][1:]
        self.look_at(expected, question, (word, values, waits, grounds, []), turn, root)

    def look_at(self, expected, question, answer, turn=TURN, root="r"):
        with self.subTest(answer=answer):
            self.assertIs(looked(root, turn, question[0], question[1], answer), expected)
            self.assertEqual(plain_looked(root, turn, question[0], question[1], answer) == [], expected)

    def shown(self, expected, **changed):
        """the answer shown above, with another part or two"""
        parts = {"word": "rows", "values": ["v", "w"], "waits": WAITS, "grounds": GROUNDS, **changed}
        answer = (parts["word"], parts["values"], parts["waits"], parts["grounds"], parts.get("asks", []))
        self.look_at(expected, (("w",), "text"), answer, parts.get("turn", TURN), parts.get("root", "r"))

    def grounds(self, expected, *grounds):
        self.shown(expected, grounds=list(grounds))

    def instead(self, expected, old, **changed):
        """the answer shown above, with another ground in the place of one"""
        fields = ("turn", "door", "top", "name", "kind", "reply")
        new = tuple([changed.get(field, part) for field, part in zip(fields, old)])
        self.grounds(expected, *[new if one == old else one for one in GROUNDS])


class InterfaceTest(unittest.TestCase):
    def test_arguments(self):
        self.assertEqual(arguments(looked), ["root", "turn", "N", "K", "answer"])


class BorneOutTest(LookerCase):
    def test_the_one_shown(self):
        self.shown(True)

    def test_asks_are_not_looked_at(self):
        self.shown(True, asks=[("z", ("z",), ("y",), "text")])

    def test_rows_empty_and_none(self):
        self.look(True, "rows", ["s"], waits_of("k", "seal"), [(20, "r", (), ("k",), "seal", ("rows", ["s"], 0))])
        self.look(True, "empty", [], waits_of("k", "seal"), [(20, "r", (), ("k",), "seal", ("empty", 0))])
        self.look(True, "none", [], waits_of("k", "seal"), [(20, "r", (), ("k",), "seal", ("none", 0))])
        self.look(True, "none", [], waits_of("k", "seal"), [(20, "r", (), ("k",), "text", ("none", 0))])
        self.look(True, "none", [], waits_of("l.m.k", "seal"), [(20, "r", (), ("k",), "text", ("none", 0))])
        self.look(True, "none", [], waits_of("", "seal"), [(20, "r", (), (), "text", ("none", 0))])

    def test_lost_behind_a_door(self):
        for reply in (("empty", 9), ("none", 9)):
            grounds = [DOWN_A, ELSE_H, (20, "r", (), ("i",), "door", reply)]
            waits = waits_of("x.a", "text", ("door", "h", "door"), ("else", "i", "door"))
            self.look(True, "lost", [], waits, grounds)
        self.look(True, "lost", [], waits_of("w", "text", ("else", "x.a", "text"), ("door", "h", "door")), [
            ELSE_W, DOWN_A, (20, "r", (), ("h",), "door", ("empty", 0))])

    def test_lost_by_away(self):
        self.look(True, "lost", [], waits_of("k", "text"), [away("r", "", "k", "text")])
        self.look(True, "lost", [], WAITS, GROUNDS[:4] + [away("d", "a", "x.a", "text")])
        self.look(True, "lost", [], waits_of("y.b", "seal"), [DOWN_B, away("f", "b", "y.b", "seal")])
        self.look(True, "lost", [], waits_of("z.a", "seal", ("door", "h", "door")), [
            DOWN_A, away("r", "", "h", "door")])

    def test_ring(self):
        back = (20, "r", (), ("i",), "text", ("else", ("h",), 0))
        self.look(True, "ring", [], waits_of("h", "text", ("else", "i", "text"), ("else", "h", "text")), [ELSE_H, back])
        self.look(True, "ring", [], waits_of("w", "text", ("else", "x.a", "text"), ("door", "h", "door"),
                                             ("else", "i", "door"), ("else", "h", "door")),
                  [ELSE_W, DOWN_A, ELSE_H, back])
        self.look(True, "ring", [], waits_of("k", "text", ("else", "k", "text")), [
            (20, "r", (), ("k",), "text", ("else", ("k",), 0))])
        one = (20, "r", (), ("m",), "text", ("down", ("m",), name("h.n"), [], 0))
        two = (20, "r", (), name("h.n"), "text", ("down", ("n",), name("h.m"), [], 0))
        self.look(True, "ring", [], waits_of("h.m", "door", ("door", "h.n", "door"), ("door", "h.m", "door")), [
            one, two])
        self.look(True, "ring", [], waits_of("h.m", "text", ("door", "h.n", "door"), ("door", "h.m", "door"),
                                             ("door", "h.n", "door")), [one, two])

    def test_more_grounds_than_are_needed(self):
        self.grounds(True, DOWN_B, *GROUNDS)
        self.grounds(True, *GROUNDS, DOWN_B, (20, "f", ("b",), ("b",), "text", ("empty", 0)))
        # even one away, at the end
        self.grounds(True, *GROUNDS, away("r", "", "k", "text"))
        self.grounds(True, *GROUNDS, (20, "r", (), ("w",), "seal", ("rows", ["s"], 0)))


class GroundsTest(LookerCase):
    def test_two_of_one_key(self):
        self.grounds(False, *GROUNDS, ELSE_W)
        self.grounds(False, *GROUNDS, (20, "r", (), ("w",), "seal", ("none", 5)))
        self.grounds(False, *GROUNDS, (20, "r", (), ("i",), "door", ("empty", 5)))
        self.grounds(False, *GROUNDS, (20, "r", (), ("a",), "door", ("down", ("a",), ("l",), ["d"], 5)))
        self.grounds(False, DOWN_B, DOWN_B, *GROUNDS)

    def test_too_late(self):
        self.instead(False, ROWS_X, turn=21)
        self.instead(False, DOWN_A, turn=21)
        self.shown(False, turn=19)

    def test_too_early(self):
        self.instead(True, ELSE_W, turn=11)
        self.instead(False, ELSE_W, turn=10)
        self.instead(False, ROWS_X, turn=19)
        self.instead(False, ELSE_H, turn=13)
        self.instead(False, ELSE_H, reply=("else", ("i",), 5))
        self.instead(False, ROWS_I, reply=("rows", ["d", "e"], 4))
        self.instead(True, DOWN_A, reply=("down", ("a",), ("h",), [], 7))
        self.instead(False, DOWN_A, reply=("down", ("a",), ("h",), [], 6))
        self.shown(False, turn=21)

    def test_at_a_late_turn(self):
        late = 10 ** 15 - TURN
        grounds = [(one[0] + late,) + one[1:] for one in GROUNDS]
        self.shown(True, grounds=grounds, turn=10 ** 15)
        self.shown(False, grounds=grounds, turn=10 ** 15 + 1)
        self.shown(False, grounds=grounds, turn=10 ** 15 - 1)

    def test_away_that_is_not_the_last(self):
        self.grounds(False, away("r", "", "k", "text"), *GROUNDS)
        self.grounds(False, *GROUNDS, away("r", "", "k", "text"), DOWN_B)
        lost = waits_of("k", "text")
        self.look(False, "lost", [], lost, [away("r", "", "k", "text"), DOWN_B])
        self.look(False, "lost", [], lost, [away("r", "", "l", "text"), away("r", "", "k", "text")])
        self.look(True, "lost", [], lost, [DOWN_B, away("r", "", "k", "text")])

    def test_away_of_another_turn(self):
        for turn in (19, 0, 21):
            self.look(False, "lost", [], waits_of("k", "text"), [away("r", "", "k", "text", turn)])
        self.grounds(False, *GROUNDS, away("r", "", "k", "text", 19))

    def test_a_name_outside_the_top(self):
        down = (13, "r", (), ("k",), "text", ("down", ("k",), ("k",), ["d"], 30))
        self.look(False, "rows", ["v"], waits_of("x.l", "text"), [
            down, (20, "d", ("k",), name("x.l"), "text", ("rows", ["v"], 0))])
        self.look(False, "empty", [], waits_of("", "text"), [down, (20, "d", ("k",), (), "text", ("empty", 0))])
        self.look(True, "empty", [], waits_of("k", "text"), [down, (20, "d", ("k",), ("k",), "text", ("empty", 0))])


class DoorTest(LookerCase):
    """each ground's door is found by the grounds ahead of it"""

    def test_another_root(self):
        self.shown(False, root="q")
        self.instead(False, ELSE_W, door="q")
        self.shown(True, root="q", grounds=[one[:1] + ("q",) + one[2:] if one[1] == "r" else one for one in GROUNDS])

    def test_no_down_at_the_top(self):
        self.instead(False, ROWS_X, top=name("x.a"))
        self.instead(False, ROWS_X, top=())
        self.instead(False, DOWN_A, reply=("down", name("q.a"), ("h",), [], 30))
        self.grounds(False, ELSE_W, ELSE_H, ROWS_I, ROWS_X)

    def test_a_down_above_the_top_or_beneath_it(self):
        lower = (13, "r", (), name("x.a"), "seal", ("down", name("x.a"), ("h",), [], 30))
        self.grounds(False, ELSE_W, lower, ELSE_H, ROWS_I, ROWS_X)
        self.grounds(False, ELSE_W, DOWN_A, ELSE_H, ROWS_I, ROWS_X[:2] + (name("x.a"),) + ROWS_X[3:])
        # a second one beneath does no harm to the first
        self.grounds(True, ELSE_W, lower, DOWN_A, ELSE_H, ROWS_I, ROWS_X)

    def test_the_root_has_say_of_no_other_top(self):
        self.look(False, "rows", ["v"], waits_of("x.k", "text"), [
            (20, "r", ("k",), name("x.k"), "text", ("rows", ["v"], 0))])

    def test_another_of_the_doors_told(self):
        low = (20, "f", ("b",), name("y.b"), "text", ("empty", 0))
        waits = waits_of("y.b", "text")
        self.look(True, "empty", [], waits, [DOWN_B, low])
        for door in ("g", "r", "h"):
            self.look(False, "empty", [], waits, [DOWN_B, low[:1] + (door,) + low[2:]])
        # what the house's name leads to does not count where doors are told
        rows = (20, "r", (), name("h.b"), "door", ("rows", ["e"], 0))
        self.look(True, "empty", [], waits, [rows, DOWN_B, low])
        self.look(False, "empty", [], waits, [rows, DOWN_B, low[:1] + ("e",) + low[2:]])

    def test_another_of_the_doors_found(self):
        for door in ("e", "r", "x"):
            self.instead(False, ROWS_X, door=door)

    def test_a_house_that_leads_to_no_rows(self):
        self.grounds(False, ELSE_W, DOWN_A, ROWS_I, ROWS_X)
        self.grounds(False, ELSE_W, DOWN_A, ELSE_H, ROWS_X)
        self.instead(False, ROWS_I, reply=("empty", 9))
        self.instead(False, ROWS_I, reply=("none", 9))
        self.instead(False, ROWS_I, reply=("else", ("h",), 9))
        self.instead(False, ROWS_I, reply=("else", ("i",), 9))
        self.instead(False, ROWS_I, kind="seal")
        self.instead(True, ELSE_H, kind="seal")
        self.instead(False, DOWN_A, reply=("down", ("a",), ("k",), [], 30))
        self.instead(True, DOWN_A, reply=("down", ("a",), ("i",), [], 30))

    def test_known_of_the_house_ahead_of_its_other_name(self):
        straight = (20, "r", (), ("h",), "door", ("rows", ["c"], 0))
        self.grounds(False, ELSE_W, DOWN_A, ELSE_H, ROWS_I, straight, ROWS_X)
        self.grounds(True, ELSE_W, DOWN_A, ELSE_H, ROWS_I, straight, ROWS_X[:1] + ("c",) + ROWS_X[2:])
        # behind it, it is too late
        self.grounds(True, ELSE_W, DOWN_A, ELSE_H, ROWS_I, ROWS_X, straight)

    def test_by_grounds_that_come_behind(self):
        self.grounds(False, ELSE_W, ROWS_X, DOWN_A, ELSE_H, ROWS_I)
        self.grounds(False, ELSE_W, ELSE_H, ROWS_I, ROWS_X, DOWN_A)
        self.grounds(False, ELSE_W, DOWN_A, ROWS_I, ROWS_X, ELSE_H)
        self.grounds(False, ELSE_W, DOWN_A, ELSE_H, ROWS_X, ROWS_I)
        self.grounds(True, ROWS_I, ELSE_H, DOWN_A, ROWS_X, ELSE_W)

    def test_of_a_ground_away(self):
        self.look(False, "lost", [], WAITS, GROUNDS[:4] + [away("e", "a", "x.a", "text")])
        self.look(False, "lost", [], WAITS, [ELSE_W, DOWN_A, ELSE_H, away("d", "a", "x.a", "text")])
        self.look(False, "lost", [], waits_of("k", "text"), [away("q", "", "k", "text")])


class WaitsTest(LookerCase):
    def test_that_begin_otherwise(self):
        self.shown(False, waits=[])
        self.shown(False, waits=WAITS[1:])
        self.shown(False, waits=[("asked", ("w",), "seal")] + WAITS[1:])
        self.shown(False, waits=[("asked", ("v",), "text")] + WAITS[1:])
        self.shown(False, waits=[("else", ("w",), "text")] + WAITS[1:])
        for question in ((("w",), "seal"), (("v",), "text"), (name("x.a"), "text")):
            self.look_at(False, question, ("rows", ["v", "w"], WAITS, GROUNDS, []))
        self.look_at(True, (name("x.a"), "text"), (
            "rows", ["v", "w"], [("asked", name("x.a"), "text")], GROUNDS, []))

    def test_that_go_on_otherwise(self):
        for wait in (("else", name("y.a"), "text"), ("else", name("x.a"), "seal"), ("door", name("x.a"), "text"),
                     ("asked", name("x.a"), "text"), ("door", ("h",), "door"), ("else", ("w",), "text")):
            self.shown(False, waits=[WAITS[0], wait])
        # nothing is known of it, and rows are
        self.shown(False, waits=WAITS[:1], grounds=GROUNDS[1:])
        self.shown(False, waits=WAITS, grounds=GROUNDS[1:])
        self.shown(False, waits=WAITS + [("else", ("i",), "text")])
        self.look(False, "rows", ["v", "w"], waits_of("w", "text", ("else", "i", "text"), ("else", "x.a", "text")), [
            *GROUNDS])

    def test_else_where_none_is_known(self):
        none = (20, "r", (), ("w",), "text", ("none", 0))
        self.look(False, "rows", ["v", "w"], WAITS, [none] + GROUNDS[1:])

    def test_doors_that_go_on_otherwise(self):
        empty = (20, "r", (), ("h",), "door", ("empty", 0))
        first = ("asked", name("x.a"), "text")
        self.look(True, "lost", [], [first, ("door", ("h",), "door")], [DOWN_A, empty])
        for wait in (("door", ("i",), "door"), ("door", ("h",), "text"), ("else", ("h",), "door"),
                     ("else", ("h",), "text"), ("asked", ("h",), "door"), ("down", ("h",), "door")):
            self.look(False, "lost", [], [first, wait], [DOWN_A, empty, (20, "r", (), ("i",), "door", ("empty", 0))])
        # not handed, or at another cut, or with doors
        self.look(False, "lost", [], [first, ("door", ("h",), "door")], [empty])
        self.look(False, "lost", [], waits_of("x.k", "text", ("door", "h", "door")), [DOWN_A, empty])
        self.look(False, "lost", [], waits_of("y.b", "text", ("door", "h.b", "door")), [
            DOWN_B, (20, "f", ("b",), name("h.b"), "door", ("empty", 0))])

    def test_a_door_of_the_longest_cut(self):
        lower = (20, "r", (), name("x.a"), "text", ("down", name("x.a"), ("l",), [], 0))
        empty = [(20, "r", (), (word,), "door", ("empty", 0)) for word in ("h", "l")]
        first = ("asked", name("x.a"), "text")
        self.look(True, "lost", [], [first, ("door", ("l",), "door")], [DOWN_A, lower] + empty)
        self.look(False, "lost", [], [first, ("door", ("h",), "door")], [DOWN_A, lower] + empty)

    def test_alike_without_a_ring(self):
        back = (20, "r", (), ("i",), "text", ("else", ("h",), 0))
        waits = waits_of("h", "text", ("else", "i", "text"), ("else", "h", "text"))
        self.look(True, "ring", [], waits, [ELSE_H, back])
        for word in ("rows", "empty", "none", "lost"):
            self.look(False, word, [], waits, [ELSE_H, back])
        grounds = [DOWN_A, (20, "r", (), ("h",), "door", ("empty", 0))]
        step = ("door", ("h",), "door")
        self.look(True, "lost", [], waits_of("x.a", "text") + [step], grounds)
        self.look(False, "lost", [], waits_of("x.a", "text") + [step, step], grounds)

    def test_a_ring_that_does_not_end_where_it_closes(self):
        back = (20, "r", (), ("i",), "text", ("else", ("h",), 0))
        steps = [("else", "i", "text"), ("else", "h", "text"), ("else", "i", "text"), ("else", "h", "text")]
        self.look(True, "ring", [], waits_of("h", "text", *steps[:2]), [ELSE_H, back])
        self.look(False, "ring", [], waits_of("h", "text", *steps[:1]), [ELSE_H, back])
        self.look(False, "ring", [], waits_of("h", "text"), [ELSE_H, back])
        self.look(False, "ring", [], waits_of("h", "text", *steps[:3]), [ELSE_H, back])
        self.look(False, "ring", [], waits_of("h", "text", *steps), [ELSE_H, back])

    def test_the_same_name_of_another_kind_is_no_ring(self):
        down = (20, "r", (), ("k",), "text", ("down", ("k",), ("k",), [], 0))
        self.look(False, "ring", [], waits_of("k", "text", ("door", "k", "door")), [down])
        self.look(True, "ring", [], waits_of("k", "text", ("door", "k", "door"), ("door", "k", "door")), [down])


class WordTest(LookerCase):
    def test_another_word(self):
        for word in ("empty", "none", "lost", "ring", "else", "down", "away", "door", "", "Rows"):
            self.shown(False, word=word, values=[])
            self.shown(False, word=word)
        for reply in (("empty", 0), ("none", 0)):
            self.instead(False, ROWS_X, reply=reply)
            grounds = GROUNDS[:4] + [ROWS_X[:5] + (reply,)]
            self.shown(True, word=reply[0], values=[], grounds=grounds)
            for word in ("rows", "empty", "none", "lost", "ring"):
                self.shown(word == reply[0], word=word, values=[], grounds=grounds)

    def test_a_word_that_is_only_known_to_go_on(self):
        self.shown(False, word="else", values=[], waits=WAITS[:1])
        for word in ("rows", "empty", "none", "lost", "ring"):
            self.shown(False, word=word, values=[], waits=WAITS[:1])

    def test_nothing_known_of_the_last(self):
        for word in ("rows", "empty", "none", "lost", "ring", "down", "away"):
            self.shown(False, word=word, values=[], grounds=GROUNDS[:4])
            self.look(False, word, [], waits_of("k", "text"), [])

    def test_of_another_kind(self):
        self.look(False, "rows", ["s"], waits_of("k", "seal"), [(20, "r", (), ("k",), "text", ("rows", ["s"], 0))])
        self.look(False, "empty", [], waits_of("k", "seal"), [(20, "r", (), ("k",), "text", ("empty", 0))])

    def test_other_values(self):
        for values in ([], ["v"], ["w", "v"], ["v", "w", "w"], ["v", "x"]):
            self.shown(False, values=values)
        for word, reply in (("empty", ("empty", 0)), ("none", ("none", 0))):
            self.look(False, word, ["v"], waits_of("k", "seal"), [(20, "r", (), ("k",), "seal", reply)])
        self.look(False, "lost", ["v"], waits_of("k", "text"), [away("r", "", "k", "text")])
        self.look(False, "lost", ["d"], waits_of("x.a", "text", ("door", "h", "door")), [
            DOWN_A, (20, "r", (), ("h",), "door", ("empty", 0))])
        self.look(False, "ring", ["v"], waits_of("k", "text", ("else", "k", "text")), [
            (20, "r", (), ("k",), "text", ("else", ("k",), 0))])

    def test_a_word_behind_a_door(self):
        for reply, word in ((("rows", ["d"], 0), "rows"), (("empty", 0), "empty"), (("none", 0), "none")):
            grounds = [DOWN_A, (20, "r", (), ("h",), "door", reply)]
            waits = waits_of("x.a", "text", ("door", "h", "door"))
            self.look(False, word, reply[1] if word == "rows" else [], waits, grounds)
            self.look(word != "rows", "lost", [], waits, grounds)

    def test_lost_without_a_door_and_without_away(self):
        for reply in (("empty", 0), ("none", 0), ("rows", ["v"], 0)):
            self.look(False, "lost", [], waits_of("k", "text"), [(20, "r", (), ("k",), "text", reply)])

    def test_lost_by_another_away(self):
        first = waits_of("k", "text")
        self.look(True, "lost", [], first, [away("r", "", "k", "text")])
        self.look(False, "lost", [], first, [away("r", "", "l", "text")])
        self.look(False, "lost", [], first, [away("r", "", "k", "seal")])
        self.look(False, "lost", [], first, [(20, "r", (), ("k",), "text", ("empty", 0)), away("r", "", "k", "text")])
        # the house that is away has no say of the name
        self.look(False, "lost", [], waits_of("y.b", "seal"), [DOWN_B, away("r", "", "y.b", "seal")])
        lower = (20, "f", ("b",), name("y.b"), "text", ("down", name("y.b"), ("l",), ["k"], 0))
        self.look(False, "lost", [], waits_of("y.b", "seal"), [DOWN_B, lower, away("f", "b", "y.b", "seal")])
        self.look(True, "lost", [], waits_of("y.b", "seal"), [DOWN_B, lower, away("k", "y.b", "y.b", "seal")])

    def test_lost_behind_a_door_with_nothing_known(self):
        waits = waits_of("x.a", "text", ("door", "h", "door"))
        self.look(False, "lost", [], waits, [DOWN_A])
        self.look(False, "lost", [], waits, [DOWN_A, ELSE_H])
        self.look(False, "lost", [], waits, [DOWN_A, ELSE_H, away("r", "", "h", "door")])


class OwnershipTest(LookerCase):
    def test_what_is_handed_in_is_not_changed(self):
        for grounds, expected in ((GROUNDS, True), (GROUNDS[1:], False), (GROUNDS + [ELSE_W], False)):
            answer = copy.deepcopy(("rows", ["v", "w"], WAITS, grounds, [("r", (), ("w",), "text")]))
            before = copy.deepcopy(answer)
            self.assertIs(looked("r", TURN, ("w",), "text", answer), expected)
            self.assertEqual(answer, before)

    def test_the_same_again_behind_a_spoilt_one(self):
        answer = copy.deepcopy(("rows", ["v", "w"], WAITS, GROUNDS, []))
        self.assertIs(looked("r", TURN, ("w",), "text", answer), True)
        other = copy.deepcopy(answer)
        spoil(answer)
        self.assertIs(looked("r", TURN, ("w",), "text", other), True)


def some_reply(source):
    life = source.randint(0, 9)
    return source.choice((
        ("rows", [source.choice(("d0", "d1", "v"))], life), ("empty", life), ("none", life), ("away",),
        ("else", some_name(source, 2), life),
        ("down", some_name(source, 2), some_name(source, 2), source.choice(([], ["d0"])), life),
    ))


def other_ground(source, ground, turn):
    """a ground with one part changed"""
    parts = list(ground)
    part = source.randint(0, 5)
    choices = (
        (turn + 1, turn, turn - 1, turn - 8), ("r", "d0", "d1", "d2"), ((), parts[3], parts[3][:1]),
        (parts[3][:-1], parts[3] + ("a",), some_name(source)), KINDS, (some_reply(source), some_life(source, parts[5])),
    )
    parts[part] = source.choice(choices[part])
    return tuple(parts)


def some_life(source, reply):
    return reply if reply == ("away",) else reply[:-1] + (source.randint(0, 9),)


def other_wait(source, waits, place):
    parts = list(waits[place])
    part = source.randint(0, 2)
    parts[part] = source.choice((("asked", "else", "door"), (some_name(source, 2), waits[-1][1]), KINDS)[part])
    return tuple(parts)


def otherwise(source, answer, turn):
    """an answer with one thing changed in it"""
    word, values, waits, grounds, asks = copy.deepcopy(answer)
    deed = source.randint(0, 9) if grounds else source.randint(7, 9)
    place = source.randrange(len(grounds or waits))
    if deed < 5:
        grounds[place] = other_ground(source, grounds[place], turn)
    elif deed == 5:
        grounds.pop(place)
    elif deed == 6:
        grounds.append(grounds.pop(place) if source.randint(0, 1) else grounds[place])
    elif deed == 7:
        word = source.choice(("rows", "empty", "none", "lost", "ring"))
        values = source.choice((values, [], ["v"]))
    elif deed == 8 and len(waits) > 1:
        waits.pop()
    else:
        place = source.randrange(len(waits))
        waits[place] = other_wait(source, waits, place)
    return (word, values, waits, grounds, asks)


class ChanceTest(unittest.TestCase):
    def test_as_the_document_says_word_by_word(self):
        seen = {}
        for source, houses, world in worlds_by_chance(500):
            asker = Asker(world)
            for step in range(15):
                if source.randint(0, 2) == 0:
                    world.wait(source.choice((0, 1, 2)))
                    some_change(source, world, houses)
                question = some_question(source, world)
                answer = asker.ask(question[0], question[1])
                self.assertIs(self.same(world.turn(), question, answer, seen), True)
                for again in range(6):
                    answer = otherwise(source, answer, world.turn())
                    borne_out = self.same(world.turn(), question, answer, seen)
                    if not borne_out and source.randint(0, 1):
                        break
        for case in ("two of one key", "too late", "too early", "away", "outside", "door", "begin", "led", "alike",
                     "word", "values", "borne out"):
            self.assertGreater(seen.get((case,), 0), 5, case)

    def same(self, turn, question, answer, seen):
        wrong = plain_looked("r", turn, question[0], question[1], answer)
        # where just one thing is wrong, it is seen whether that one is looked at
        case = tuple(sorted(set(wrong))) or ("borne out",)
        seen[case] = seen.get(case, 0) + 1
        with self.subTest(answer=answer, question=question, turn=turn):
            borne_out = looked("r", turn, question[0], question[1], answer)
            self.assertIs(borne_out, wrong == [])
        return borne_out


if __name__ == "__main__":
    unittest.main()
