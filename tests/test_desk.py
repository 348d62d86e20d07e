import copy
import unittest

from namewell.desk import Desk, show_outcome
from namewell.errors import BadCut, BadName, BadRow, Clash, NoDeed, NoKind, NoName, NoZone, Outside, WellError, \
    ZoneError
from tests.worlds import arguments, name

ROOT = """put r
; the root
zone . 50
north 40 down keeper.north
keeper.north 30 door d1
old   20 else mill.north
far   20 down nobody
round 20 else about
about 20 else round
gone  20 down x.gone
x.gone 20 door d9
@     20 text top"""
NORTH = "put d1\nzone north. 50\nmill 10 text white\n     10 text red\ninn 10 else old."
QUESTIONS = ("mill.north", "old", "inn.north", "x.north", "far", "round", "gone", "north", "@")


def told_desk():
    desk = Desk("r")
    desk.say(ROOT)
    desk.say(NORTH)
    return desk


def waits_of(*texts):
    return [("asked" if place == 0 else "else", name(text), "text") for place, text in enumerate(texts)]


class InterfaceTest(unittest.TestCase):
    def test_arguments(self):
        self.assertEqual(arguments(Desk), ["root"])
        self.assertEqual(arguments(Desk.say), ["row"])
        self.assertEqual(arguments(show_outcome), ["word", "values", "waits"])


class OutcomeTest(unittest.TestCase):
    def test_rows(self):
        self.assertEqual(show_outcome("rows", ["red", "white"], waits_of("mill.north", "old.south")),
                         "rows mill.north. old.south. = red white")
        self.assertEqual(show_outcome("rows", ["v"], waits_of("x")), "rows x. = v")
        self.assertEqual(show_outcome("rows", ["="], waits_of("")), "rows . = =")

    def test_other_words(self):
        for word in ("empty", "none", "lost", "ring"):
            self.assertEqual(show_outcome(word, [], waits_of("x.north")), f"{word} x.north.")
            self.assertEqual(show_outcome(word, [], waits_of("a", "b.a", "c", "a")), f"{word} a. b.a. c. a.")

    def test_in_the_order_handed_in(self):
        self.assertEqual(show_outcome("rows", ["z", "a", "z"], waits_of("z", "a", "z")), "rows z. a. z. = z a z")

    def test_values_where_the_word_is_rows_alone(self):
        self.assertEqual(show_outcome("none", ["v"], waits_of("x")), "none x.")
        self.assertEqual(show_outcome("lost", ["v", "w"], waits_of("x", "y")), "lost x. y.")
        self.assertEqual(show_outcome("rows", [], waits_of("x")), "rows x. =")

    def test_what_is_handed_in_is_not_changed(self):
        for word in ("rows", "none"):
            values = ["b", "a"]
            waits = waits_of("x", "y")
            expected = copy.deepcopy((values, waits))
            text = show_outcome(word, values, waits)
            self.assertEqual((values, waits), expected)
            values.clear()
            waits.clear()
            self.assertEqual(text, "rows x. y. = b a" if word == "rows" else "none x. y.")


class RowsTest(unittest.TestCase):
    def setUp(self):
        self.desk = told_desk()

    def say(self, row, expected):
        self.assertEqual(self.desk.say(row), expected)

    def test_at_first(self):
        desk = Desk("r")
        self.assertEqual(desk.say("asks"), "0")
        self.assertEqual(desk.say("wait 0"), "turn 0")
        self.assertEqual(desk.say("truth a text"), "lost a.")
        self.assertEqual(desk.say("ask a text"), "lost a.")
        self.assertEqual(desk.say("asks"), "1")

    def test_the_root_is_the_one_told(self):
        desk = Desk("d1")
        desk.say(ROOT)
        self.assertEqual(desk.say("truth old text"), "lost old.")
        self.assertEqual(desk.say("ask old text"), "lost old.")
        desk.say("put d1\nzone . 5\nold 5 text v")
        self.assertEqual(desk.say("ask old text"), "rows old. = v")

    def test_put(self):
        desk = Desk("r")
        self.assertEqual(desk.say(ROOT), "turn 1")
        self.assertEqual(desk.say(NORTH), "turn 2")
        self.assertEqual(desk.say("put r\n\n;x\n  \nzone NORTH. 7  \nMill   7  text v"), "turn 3")
        # in the place of the one with the same top
        self.assertEqual(desk.say("put d1\nzone north. 5\nmill 5 text blue"), "turn 4")
        self.assertEqual(desk.say("truth mill.north text"), "rows mill.north. = blue")
        self.assertEqual(desk.say("put !~/d1\nzone . 5"), "turn 5")
        door = "d" * 40
        self.assertEqual(desk.say(f"put {door}\nzone . 5"), "turn 6")
        self.assertEqual(desk.say("asks"), "0")

    def test_drop(self):
        self.say("drop d1 north", "turn 3")
        self.say("truth mill.north text", "lost mill.north.")
        self.say("drop r .", "turn 4")
        self.say("truth old text", "lost old.")

    def test_drop_by_a_name_below_the_whole(self):
        self.say("put d1\nzone b.a. 5", "turn 3")
        self.say("drop d1 NORTH.", "turn 4")
        self.say("drop d1 B.a", "turn 5")
        self.say("drop r @", "turn 6")

    def test_wait(self):
        self.say("wait 0", "turn 2")
        self.say("wait 1", "turn 3")
        self.say("wait 999999999", "turn 1000000002")
        self.say("drop d1 north", "turn 1000000003")

    def test_ask(self):
        for text, expected in (
            ("mill.north", "rows mill.north. = red white"), ("old", "rows old. mill.north. = red white"),
            ("inn.north", "rows inn.north. old. mill.north. = red white"), ("x.north", "none x.north."),
            ("y.x.north", "none y.x.north."), ("north", "empty north."), ("far", "lost far. nobody."),
            ("a.far", "lost a.far. nobody."), ("gone", "lost gone."), ("round", "ring round. about. round."),
            ("@", "rows . = top"), (".", "rows . = top"), ("MILL.North.", "rows mill.north. = red white"),
        ):
            for deed in ("ask", "truth", "ask"):
                with self.subTest(deed=deed, text=text):
                    self.say(f"{deed} {text} text", expected)
        self.say("ask mill.north door", "empty mill.north.")
        self.say("truth keeper.north door", "none keeper.north.")
        self.say("ask mill.north abcdefgh", "empty mill.north.")

    def test_the_asker_remembers_and_the_truth_does_not(self):
        self.say("ask old text", "rows old. mill.north. = red white")
        self.say("put d1\nzone north. 5\nmill 5 text blue", "turn 3")
        self.say("ask old text", "rows old. mill.north. = red white")
        self.say("truth old text", "rows old. mill.north. = blue")
        self.say("wait 9", "turn 12")
        self.say("ask old text", "rows old. mill.north. = red white")
        self.say("wait 1", "turn 13")
        self.say("ask old text", "rows old. mill.north. = blue")

    def test_asks(self):
        self.say("asks", "0")
        self.say("ask old text", "rows old. mill.north. = red white")
        self.say("asks", "2")
        self.say("ask old text", "rows old. mill.north. = red white")
        self.say("asks", "2")
        # without a house behind the door, too
        self.say("ask gone text", "lost gone.")
        self.say("asks", "4")
        self.say("ask gone text", "lost gone.")
        self.say("asks", "5")

    def test_the_truth_asks_no_house(self):
        for text in QUESTIONS:
            self.desk.say(f"truth {text} text")
        self.say("asks", "0")
        self.say("ask mill.north text", "rows mill.north. = red white")
        self.say("asks", "2")

    def test_clear(self):
        self.say("ask old text", "rows old. mill.north. = red white")
        self.say("put d1\nzone north. 5\nmill 5 text blue", "turn 3")
        self.say("clear", "ok")
        self.say("asks", "2")
        self.say("wait 0", "turn 3")
        self.say("ask old text", "rows old. mill.north. = blue")
        self.say("asks", "4")
        self.say("clear", "ok")
        self.say("clear", "ok")

    def test_two_desks_are_two(self):
        other = Desk("r")
        self.desk.say("ask old text")
        self.assertEqual(other.say("asks"), "0")
        self.assertEqual(other.say("truth old text"), "lost old.")
        self.assertEqual(other.say("wait 0"), "turn 0")


LONG = "d" * 41
ELEVEN = ".".join("abcdefghijk")

REFUSED = (
    # none of the rows
    (NoDeed, (
        "", " ", "\n", "foo", "Ask a text", "ASKS", "asks 1", "clear all", "put", "drop", "wait", "ask", "truth",
        "drop d1", "drop d1 north x", "wait 1 2", "ask a", "ask a text x", "truth a", "truth a text x", "asks\n",
        "clear\n", "askold text", "ask\told text", "puts d1\nzone . 5", "put\nzone . 5", "putd1\nzone . 5",
        "truth", "say x", "turn 5",
    )),
    # two blanks, or one at the end or the beginning
    (NoDeed, (
        "asks ", " asks", "clear ", "wait ", "wait  1", "wait 1 ", "drop  north", "drop d1  north", "drop d1 north ",
        "ask old  text", "ask old text ", " ask old text", "ask  old text", "truth old text ", "put  d1\nzone . 5",
        "put d1 \nzone . 5", " put d1\nzone . 5", "put \nzone . 5",
    )),
    (NoName, ("ask  text", "truth  text", "drop d1 ")),
    (NoKind, ("ask old ", "truth old ")),
    # what is no text
    (NoDeed, (None, True, 5, b"asks", ["asks"], ("ask", "old", "text"), {})),
    # a door that is no value
    (NoDeed, (
        f"put {LONG}\nzone . 5", f"drop {LONG} north", "drop d1\n north", "put d1 d2\nzone . 5", "put d1",
        "put d1 zone . 5",
    )),
    # turns that are none
    (NoDeed, (
        "wait x", "wait -1", "wait 01", "wait 00", "wait 1000000000", "wait 1.5", "wait 1\n", "wait +1", "wait 1e3",
        "wait one",
    )),
    (NoName, (
        "ask a..b text", "ask .. text", "ask a_b text", "ask * text", "ask *.north text", "truth *. text",
        "ask abcdefghijklm text", f"ask {ELEVEN} text", f"truth {ELEVEN}. text", "truth .a text", "drop d1 *",
        "drop d1 a..b", f"drop d1 {ELEVEN}", "ask a@ text", "ask old\n text", "drop d1 north\n",
    )),
    (NoKind, (
        "ask old else", "ask old down", "truth old else", "truth old down", "ask old Text", "ask old abcdefghi",
        "ask old te-xt", "ask old text1", "truth old =", "ask old text\n", "truth old .",
    )),
    (NoZone, ("drop d2 north", "drop d1 .", "drop d1 mill.north", "drop r north", "drop D1 north", "drop d1 @")),
    # two things wrong in one row: the first by the order told
    (NoDeed, (
        f"drop {LONG} a..b", f"put {LONG}", "put \nnonsense", f"put {LONG}\nnonsense", "ask a..b else x", "ask a..b",
        "drop d1 a..b x", "wait x y", "put d1 x\nnonsense", "ask a..b text ", "drop  a..b", "truth old else ",
    )),
    (NoName, ("ask a..b else", "truth a..b Text", "drop d2 a..b", "ask  else", "ask a..b ", "drop d2 ", "ask  ")),
)

REFUSED_ZONES = (
    ("put d1\n", BadRow, 0), ("put d1\n;zone . 5\n\n   ", BadRow, 0), ("put d1\n zone . 5", BadRow, 1),
    ("put d1\nnonsense", BadRow, 1), ("put d1\nzone north 5", BadName, 1), ("put d1\n\nzone north. x", BadRow, 2),
    ("put d1\nzone north. 5\nmill 5 text", BadRow, 2),
    ("put d1\nzone north. 5\nmill 5 text v\nx.south. 5 text v", Outside, 3),
    ("put d1\nzone north. 5\n;\nmi..ll 5 text v", BadName, 3), ("put d1\nzone north. 5\n@ 5 down x", BadCut, 2),
    ("put d1\nzone north. 5\nx 5 text v\nx 6 text v", Clash, 3),
    ("put d2\nzone north. 5\nx 5 text v\n 6 else y", Clash, 3),
    ("put d1\nput d1\nzone . 5", BadRow, 1),
)


class RefusedTest(unittest.TestCase):
    def refuses(self, desk, row, error, line=None):
        with self.subTest(row=row):
            with self.assertRaises(WellError) as caught:
                desk.say(row)
            self.assertIs(caught.exception.__class__, error)
            if line is not None:
                self.assertIsInstance(caught.exception, ZoneError)
                self.assertEqual(caught.exception.row, line)

    def test_each_refusal(self):
        desk = told_desk()
        for error, rows in REFUSED:
            for row in rows:
                self.refuses(desk, row, error)

    def test_zones_with_the_line_counted_within_their_text(self):
        desk = told_desk()
        for row, error, line in REFUSED_ZONES:
            self.refuses(desk, row, error, line)

    def test_what_is_refused_changes_nothing(self):
        refused = [row for error, rows in REFUSED for row in rows] + [row for row, error, line in REFUSED_ZONES]
        for asked_ahead in (False, True):
            for row in refused:
                desk, other = told_desk(), told_desk()
                if asked_ahead:
                    for text in QUESTIONS:
                        self.assertEqual(desk.say(f"ask {text} text"), other.say(f"ask {text} text"))
                with self.subTest(row=row), self.assertRaises(WellError):
                    desk.say(row)
                self.same(desk, other)

    def same(self, desk, other):
        """the turn, the number of asks and all answers, the rows asked for in between again and again"""
        rows = ["wait 0", "asks"]
        for text in QUESTIONS:
            rows += [f"truth {text} text", f"ask {text} text", "asks", f"ask {text} seal", "asks"]
        for row in rows + ["wait 12"] + rows:
            self.assertEqual(desk.say(row), other.say(row), row)

    def test_nothing_is_let_go_by_a_refused_clear(self):
        desk = told_desk()
        desk.say("ask old text")
        self.refuses(desk, "clear ", NoDeed)
        desk.say("ask old text")
        self.assertEqual(desk.say("asks"), "2")

    def test_a_zone_that_was_dropped_before(self):
        desk = told_desk()
        desk.say("drop d1 north")
        self.refuses(desk, "drop d1 north", NoZone)
        self.assertEqual(desk.say("wait 0"), "turn 3")


if __name__ == "__main__":
    unittest.main()
