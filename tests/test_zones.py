import copy
import random
import unittest

from namewell.errors import BadCut, BadName, BadRow, Clash, Outside
from namewell.zones import read_zone, show_zone

TEN = tuple("abcdefghij")
NORTH = ("north",)

ZONE = (NORTH, 60, [
    (NORTH, 300, "text", "The=North;"),
    (("north", "mill"), 300, "door", "d1"),
    (("north", "mill"), 0, "door", "d2"),
    (("north", "old"), 999999999, "else", ("north", "mill")),
    (("north", "*"), 5, "else", ("south",)),
    (("north", "far"), 900, "down", ("north", "far", "keeper")),
    (("north", "far"), 900, "text", "x"),
    (("north", "far", "*"), 1, "text", "~" * 40),
    (("north", "whole"), 1, "else", ()),
])

TEXT = "\n".join((
    "zone north. 60",
    "north. 300 text The=North;",
    "mill.north. 300 door d1",
    "mill.north. 0 door d2",
    "old.north. 999999999 else mill.north.",
    "*.north. 5 else south.",
    "far.north. 900 down keeper.far.north.",
    "far.north. 900 text x",
    "*.far.north. 1 text " + "~" * 40,
    "whole.north. 1 else .",
))


def rows_of(lines, top="north."):
    return read_zone(f"zone {top} 60\n{lines}")[2]


class ZoneCase(unittest.TestCase):
    def refused(self, text, error, row):
        with self.subTest(text=text):
            with self.assertRaises(error) as caught:
                read_zone(text)
            self.assertIs(caught.exception.__class__, error)
            self.assertEqual(caught.exception.row, row)

    def row_refused(self, line, error):
        # at a line of its own, and ahead of a wrong line that would be told by another class
        head = "zone north. 60\nmill 1 door d1\nfar 1 down south.\nold 1 else mill\n"
        self.refused(head + line, error, 5)
        later = "x 1 text" if error is not BadRow else "x. 1 text v"
        self.refused(f"{head}\n; x\n{line}\n{later}", error, 7)


class WritingTest(unittest.TestCase):
    def test_as_it_is_told(self):
        self.assertEqual(show_zone(ZONE), TEXT)
        self.assertEqual(show_zone(((), 0, [])), "zone . 0")
        self.assertEqual(show_zone(((), 5, [((), 0, "text", "x")])), "zone . 5\n. 0 text x")
        self.assertEqual(show_zone((TEN, 5, [])), "zone j.i.h.g.f.e.d.c.b.a. 5")

    def test_what_is_handed_in_is_not_changed(self):
        zone = copy.deepcopy(ZONE)
        show_zone(zone)
        self.assertEqual(zone, ZONE)


class ReadingTest(ZoneCase):
    def test_what_is_written_is_read_back(self):
        self.assertEqual(read_zone(TEXT), ZONE)
        self.assertEqual(read_zone("zone . 0"), ((), 0, []))

    def test_kinds_of_what_is_told(self):
        zone = read_zone(TEXT)
        self.assertIs(zone.__class__, tuple)
        self.assertIs(zone[0].__class__, tuple)
        self.assertIs(zone[1].__class__, int)
        self.assertIs(zone[2].__class__, list)
        for row in zone[2]:
            self.assertIs(row.__class__, tuple)
            self.assertEqual(len(row), 4)
            self.assertIs(row[0].__class__, tuple)
            self.assertIs(row[1].__class__, int)

    def test_lists_are_the_askers_own(self):
        first = read_zone(TEXT)
        second = read_zone(TEXT)
        self.assertIsNot(first[2], second[2])
        first[2].clear()
        second[2].append("x")
        self.assertEqual(read_zone(TEXT), ZONE)
        first = read_zone("zone . 0")
        first[2].append("x")
        self.assertEqual(read_zone("zone . 0"), ((), 0, []))

    def test_more_freely(self):
        text = "\n".join((
            "; a remark, zone x",
            "",
            "   ",
            "zone   NORTH.  60   ",
            ";mill 1 door d0",
            "@ 300 text The=North; ",
            "Mill 300  door     d1",
            "   ",
            "; between",
            "     0 door d2    ",
            "old 999999999 else MILL",
            "*   5 else South.",
            "far.north. 900 down keeper.far",
            " 900 text x",
            "*.far 1 text " + "~" * 40,
            "whole 1 else .",
            "",
            ";",
        ))
        self.assertEqual(read_zone(text), ZONE)
        self.assertEqual(read_zone(text + "\n"), ZONE)
        self.assertEqual(show_zone(read_zone(text)), TEXT)

    def test_names_below_the_top(self):
        self.assertEqual(rows_of("@ 1 else @"), [(NORTH, 1, "else", NORTH)])
        self.assertEqual(rows_of("a.b 1 else c.d"), [(("north", "b", "a"), 1, "else", ("north", "d", "c"))])
        self.assertEqual(rows_of("a.north. 1 else c.d."), [(("north", "a"), 1, "else", ("d", "c"))])
        self.assertEqual(rows_of("a 1 down ."), [(("north", "a"), 1, "down", ())])
        self.assertEqual(rows_of("a 1 else b", "."), [(("a",), 1, "else", ("b",))])
        self.assertEqual(rows_of(". 1 text v", "."), [((), 1, "text", "v")])
        self.assertEqual(rows_of("* 1 text v", "."), [(("*",), 1, "text", "v")])

    def test_values_of_plain_kinds_stay_as_they_stand(self):
        for value in ("Mill", "@", "*", ".", "..", ";", ";x", "0", "else", "down", "zone", "a..b", "=", "x" * 40):
            with self.subTest(value):
                self.assertEqual(rows_of("a 1 text " + value), [(("north", "a"), 1, "text", value)])

    def test_words_that_are_also_signs_of_the_form(self):
        self.assertEqual(rows_of("zone 1 zone zone"), [(("north", "zone"), 1, "zone", "zone")])
        self.assertEqual(rows_of("else 1 else down"), [(("north", "else"), 1, "else", ("north", "down"))])
        self.assertEqual(rows_of("down 1 elses x"), [(("north", "down"), 1, "elses", "x")])

    def test_the_name_of_the_row_above(self):
        rows = rows_of("a 1 text u\n 2 text v\n\n;x\n      3 text w\nb 1 text u\n 4 text v")
        self.assertEqual([(row[0][1], row[1], row[3]) for row in rows], [
            ("a", 1, "u"), ("a", 2, "v"), ("a", 3, "w"), ("b", 1, "u"), ("b", 4, "v")])
        self.assertEqual(rows_of("* 1 text u\n 2 text v")[1][0], ("north", "*"))
        self.assertEqual(rows_of("a 1 text u\n 2 down b")[1], (("north", "a"), 2, "down", ("north", "b")))

    def test_order_of_the_lines(self):
        rows = rows_of("c 1 text u\na 1 text u\nb 1 text u\na 1 text b\na 1 text a")
        self.assertEqual([(row[0][1], row[3]) for row in rows], [
            ("c", "u"), ("a", "u"), ("b", "u"), ("a", "b"), ("a", "a")])

    def test_lives(self):
        for life in (0, 1, 999999999):
            self.assertEqual(read_zone(f"zone . {life}\na {life} text v"), ((), life, [(("a",), life, "text", "v")]))

    def test_what_stands_together_at_a_name(self):
        self.assertEqual(len(rows_of("a 1 text u\na 1 text v\na 1 door u\na 1 down b\na 1 words u")), 5)
        self.assertEqual(len(rows_of("a 1 text u\nb 1 text u\n@ 1 text u\n* 1 text u\n*.a 1 text u")), 5)
        self.assertEqual(len(rows_of("a 1 else x\nb 1 else x\n* 1 else x\n@ 1 else x\nb.a 1 text u")), 5)
        self.assertEqual(len(rows_of("a 1 down x\nb 1 down x\nb.a 1 down x\n*.a 1 text x")), 4)
        self.assertEqual(len(rows_of("a 1 text u\na 1 text U")), 2)

    def test_three_hundred_rows(self):
        lines = [f"w{number} 1 text v" for number in range(300)]
        text = "zone north. 60\n" + "\n".join(lines)
        zone = read_zone(text)
        self.assertEqual(len(zone[2]), 300)
        self.assertEqual(read_zone(show_zone(zone)), zone)
        lines = [f" 1 text v{number}" for number in range(299)]
        self.assertEqual(len(rows_of("a 1 text v\n" + "\n".join(lines))), 300)

    def test_ten_thousand_signs(self):
        self.assertEqual(read_zone("zone . 0\n" + " " * 9991), ((), 0, []))
        self.assertEqual(read_zone("\n" * 9992 + "zone . 0"), ((), 0, []))
        self.assertEqual(read_zone("zone" + " " * 9994 + ". 0"), ((), 0, []))
        self.refused("\n" * 9993 + "zone . ", BadRow, 9994)
        self.refused("zone . 0\n" + "a " * 4995, BadRow, 2)
        self.refused("zone " + "a." * 4996 + " 0", BadName, 1)

    def test_zones_by_chance_are_read_back(self):
        for seed in range(200):
            zone = some_zone(random.Random(seed))
            text = show_zone(zone)
            with self.subTest(text):
                self.assertEqual(read_zone(text), zone)
                self.assertEqual(show_zone(read_zone(text)), text)


def some_zone(source):
    words = ("a", "b-", "0", "x" * 12)
    top = tuple(source.choices(words, k=source.randint(0, 5)))
    full = {}
    for step in range(source.randint(0, 12)):
        name = top + tuple(source.choices(words, k=source.randint(0, 10 - len(top))))
        if len(name) < 10 and source.randint(0, 3) == 0:
            name += ("*",)
        if name in full:
            continue
        life = source.choice((0, 7, 999999999))
        other = tuple(source.choices(words, k=source.randint(0, 10)))
        if source.randint(0, 2) == 0:
            full[name] = [(name, life, "else", other)]
            continue
        full[name] = [(name, life, kind, value) for kind in ("text", "door") for value in ("d1", ";", "@", "~")]
        if name != top and name[-1] != "*":
            full[name].append((name, life, "down", other))
    rows = [row for name in full for row in full[name]]
    source.shuffle(rows)
    return (top, source.choice((0, 60, 999999999)), rows)


class RefusingTest(ZoneCase):
    def test_no_line(self):
        for text in ("", " ", "\n", "\n\n  \n", ";", "; zone . 0", ";zone . 0\n\n;x", ";" * 10000, "\n" * 10000):
            self.refused(text, BadRow, 0)

    def test_no_text(self):
        for thing in (None, 0, 5, True, 1.5, [], ["zone . 0"], (), ("zone . 0",), {}, b"zone . 0", object()):
            with self.assertRaises(BadRow) as caught:
                read_zone(thing)
            self.assertEqual(caught.exception.row, 0)

    def test_first_line_of_a_wrong_form(self):
        for line in ("zone", "zone .", "zone . 5 x", "zone . 5 ;", "Zone . 5", "ZONE . 5", "zones . 5", "a 1 text v",
                     "a . 5", " zone . 5", "   zone . 5", " ; x", " 1 text v", " ;", "zone. 5", "zone .5", "x"):
            self.refused(line, BadRow, 1)
            self.refused(f"\n;x\n   \n{line}\na 1 text v", BadRow, 4)

    def test_top(self):
        for top in ("north", "@", "..", "*.", "*.north.", ".north.", "a..b.", "a_b.", "x" * 13 + ".", "*",
                    "k.j.i.h.g.f.e.d.c.b.a.", ";", ";.", "north.x"):
            self.refused(f"zone {top} 5", BadName, 1)
            self.refused(f"; x\nzone {top} 05\na", BadName, 2)
        self.assertEqual(read_zone("zone J.i.h.g.f.e.d.c.b.a. 5"), (TEN, 5, []))

    def test_zone_life(self):
        for life in ("00", "05", "x", "-1", "1000000000", "+5", "5.", "1_0", ";"):
            self.refused(f"zone north. {life}", BadRow, 1)
            self.refused(f"\nzone north. {life}\na b c", BadRow, 2)

    def test_first_line_two_wrong_things(self):
        self.refused("zone north 05", BadName, 1)
        self.refused("zone north 05 x", BadRow, 1)
        self.refused(" zone north 5", BadRow, 1)
        self.refused("Zone north 5", BadRow, 1)

    def test_number_of_words(self):
        for line in ("a", "a 1", "a 1 text", "a 1 text v w", "a 1 text v ; w", "zone north. 60", "a 1 text v v v",
                     " 1", " 1 text", " a 1 text v", " 1 text v w", " ; x", " ; a remark of words", " ;", "   ;x"):
            self.row_refused(line, BadRow)

    def test_no_row_above(self):
        self.refused("zone north. 60\n 1 text v", BadRow, 2)
        self.refused("zone north. 60\n\n; a 1 text v\n  1 text v", BadRow, 4)

    def test_names(self):
        for name in ("..", ".a", "a..b", "a_b", "x" * 13, "a.*", "*.*", "@.a", "j.i.h.g.f.e.d.c.b.a", "*.*.", "**",
                     "*.i.h.g.f.e.d.c.b.a", "a.;"):
            self.row_refused(f"{name} 1 text v", BadName)
            self.row_refused(f"{name} 01 Text v", BadName)
        self.assertEqual(len(rows_of("i.h.g.f.e.d.c.b.a 1 text v")), 1)
        self.assertEqual(len(rows_of("*.h.g.f.e.d.c.b.a 1 text v")), 1)

    def test_outside(self):
        for name in (".", "south.", "mill.", "north.south.", "*.", "*.south.", "mill.north.south.", "northern."):
            self.row_refused(f"{name} 1 text v", Outside)
            self.row_refused(f"{name} 01 text v", Outside)
            self.row_refused(f"{name} 1 Text v", Outside)
            self.row_refused(f"{name} 1 else a..b", Outside)
            self.row_refused(f"{name} 1 down x", Outside)
        self.refused("zone mill.north. 5\nnorth. 1 text v", Outside, 2)
        self.refused("zone mill.north. 5\n*.north. 1 text v", Outside, 2)

    def test_lives(self):
        for life in ("00", "01", "000", "x", "-1", "1000000000", "+5", "5.", "1_0", ";"):
            self.row_refused(f"a {life} text v", BadRow)
            self.row_refused(f"a {life} else a..b", BadRow)
            self.row_refused(f"@ {life} down x", BadRow)
            self.row_refused(f"mill {life} door d1", BadRow)
            self.row_refused(f" {life} text v", BadRow)

    def test_kinds(self):
        for kind in ("Text", "ELSE", "Down", "abcdefghi", "d0", "a-b", "a.", "*", ";"):
            self.row_refused(f"a 1 {kind} v", BadRow)
            self.row_refused(f"old 1 {kind} v", BadRow)
            self.row_refused(f" 1 {kind} a..b", BadRow)
        self.assertEqual(len(rows_of("a 1 abcdefgh v")), 1)

    def test_plain_values(self):
        for value in ("x" * 41, "\x25", "a\x25b", "\x7f", "\xe9", "a\tb", "\r"):
            self.row_refused(f"a 1 text {value}", BadRow)
            self.row_refused(f"old 1 text {value}", BadRow)
            self.row_refused(f" 1 text {value}", BadRow)

    def test_values_that_are_names(self):
        for value in ("..", ".a", "a..b", "a_b", "x" * 13, "*", "*.", "*.a", "*.north.", "a.*", "\x25", ";",
                      "j.i.h.g.f.e.d.c.b.a", "k.j.i.h.g.f.e.d.c.b.a."):
            for kind in ("else", "down"):
                self.row_refused(f"a 1 {kind} {value}", BadName)
                self.row_refused(f"@ 1 {kind} {value}", BadName)
                self.row_refused(f"* 1 {kind} {value}", BadName)
                self.row_refused(f"far 1 {kind} {value}", BadName)
                self.row_refused(f" 1 {kind} {value}", BadName)
        # longer than a value of a plain kind may be
        name = ".".join(["x" * 12] * 10) + "."
        self.assertEqual(rows_of(f"a 1 else {name}")[0][3], ("x" * 12,) * 10)

    def test_cuts(self):
        for name in ("@", "north.", "NORTH.", "*", "*.north.", "*.a", "*.far"):
            self.row_refused(f"{name} 1 down x", BadCut)
        self.refused("zone . 5\n. 1 down x", BadCut, 2)
        self.refused("zone . 5\n* 1 down x", BadCut, 2)
        self.refused("zone north. 5\n@ 1 text v\n 1 down x", BadCut, 3)
        self.refused("zone north. 5\n* 1 text v\n 1 down x", BadCut, 3)

    def test_a_cut_ahead_of_a_clash(self):
        self.refused("zone north. 5\n@ 1 else x\n@ 1 down x", BadCut, 3)
        self.refused("zone north. 5\n* 1 else x\n* 1 down x", BadCut, 3)

    def test_the_same_row_twice(self):
        self.row_refused("mill 1 door d1", Clash)
        self.row_refused("MILL.north. 2 door d1", Clash)
        self.refused("zone north. 5\na 1 text v\n 2 text v", Clash, 3)
        self.refused("zone north. 5\n* 1 text v\n*.north. 1 text v", Clash, 3)
        self.refused("zone north. 5\na 1 text v\nb 1 text v\na 1 text w\nb 1 text w\na 1 text v", Clash, 6)

    def test_else_with_other_rows(self):
        self.row_refused("old 1 else mill", Clash)
        self.row_refused("old 1 else far", Clash)
        self.row_refused("old 1 text v", Clash)
        self.row_refused("old 1 down x", Clash)
        self.row_refused(" 1 text v", Clash)
        self.row_refused("mill 1 else x", Clash)
        self.row_refused("far 1 else x", Clash)
        self.refused("zone north. 5\n@ 1 else x\n@ 1 text v", Clash, 3)
        self.refused("zone north. 5\n* 1 else x\n* 1 text v", Clash, 3)
        self.refused("zone north. 5\n* 1 text v\n* 1 else x", Clash, 3)
        self.refused("zone north. 5\na 1 text v\nb 1 text v\na 1 else b", Clash, 4)

    def test_a_second_down(self):
        self.row_refused("far 1 down south.", Clash)
        self.row_refused("far 1 down x", Clash)
        self.refused("zone north. 5\na 1 down x\na 1 text v\na 1 down y", Clash, 4)

    def test_of_two_wrong_lines_the_first(self):
        wrong = (
            ("a 1 text", BadRow), ("a..b 1 text v", BadName), ("south. 1 text v", Outside), ("a 01 text v", BadRow),
            ("a 1 text \x25", BadRow), ("a 1 else *", BadName), ("@ 1 down x", BadCut), ("m 1 text v", Clash),
        )
        for line, error in wrong:
            for later, other in wrong:
                self.refused(f"zone north. 5\nm 1 text v\n;\n{line}\n{later}", error, 4)
                self.refused(f"zone north. 5\nm 1 text v\n{later}\n\n{line}", other, 3)
            self.refused(f"zone north 5\n{line}", BadName, 1)

    def test_a_refusal_leaves_nothing_behind(self):
        self.refused("zone north. 5\na 1 text v\na 1 text v", Clash, 3)
        self.assertEqual(rows_of("a 1 text v"), [(("north", "a"), 1, "text", "v")])


if __name__ == "__main__":
    unittest.main()
