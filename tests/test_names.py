import inspect
import random
import unittest

from namewell.errors import NoName
from namewell.names import above, at_or_beneath, ordered, read_name, shared, show_name

TEN = tuple("abcdefghij")
LONG = "abcdefgh-019"
SIGNS = "abcdefghijklmnopqrstuvwxyz0123456789-"


def some_names(seed, many):
    source = random.Random(seed)
    names = []
    for step in range(many):
        words = ["".join(source.choices(SIGNS, k=source.randint(1, 12))) for word in range(step % 11)]
        names.append(tuple(words))
    return names


class LyingTest(unittest.TestCase):
    def test_at_or_beneath(self):
        for name, top, expected in (
            ((), (), True),
            (("north",), (), True),
            (TEN, (), True),
            ((), ("north",), False),
            (("north",), ("north",), True),
            (("north", "mill"), ("north",), True),
            (("north",), ("north", "mill"), False),
            (("northern",), ("north",), False),
            (("south", "north"), ("north",), False),
            (("north", "mill", "old"), ("north", "mill"), True),
            (("north", "mills", "old"), ("north", "mill"), False),
            (TEN, TEN[:9], True),
            (TEN[:9], TEN, False),
            (("north", "*"), ("north",), True),
        ):
            with self.subTest(name=name, top=top):
                self.assertIs(at_or_beneath(name, top), expected)

    def test_above(self):
        self.assertEqual(above(()), [()])
        self.assertEqual(above(("north",)), [(), ("north",)])
        self.assertEqual(above(("north", "mill")), [(), ("north",), ("north", "mill")])
        self.assertEqual(above(TEN), [TEN[:many] for many in range(11)])

    def test_shared(self):
        for one, other, expected in (
            ((), (), ()),
            ((), TEN, ()),
            (TEN, TEN, TEN),
            (TEN, TEN[:4], TEN[:4]),
            (("a", "b", "c"), ("a", "b", "d"), ("a", "b")),
            (("a", "b", "c"), ("a", "x", "c"), ("a",)),
            (("a", "b"), ("x", "b"), ()),
            (("ab",), ("a", "b"), ()),
        ):
            with self.subTest(one=one, other=other):
                self.assertEqual(shared(one, other), expected)
                self.assertEqual(shared(other, one), expected)

    def test_ordered(self):
        names = [("b",), ("a", "z"), ("a",), (), ("a", "b", "c"), ("ab",), ("a-",), ("a0",), ("a", "b"), ("b",)]
        self.assertEqual(ordered(names), [
            (), ("a",), ("a", "b"), ("a", "b", "c"), ("a", "z"), ("a-",), ("a0",), ("ab",), ("b",)])
        self.assertEqual(ordered([]), [])
        self.assertEqual(ordered([()]), [()])
        self.assertEqual(ordered([("9",), ("10",), ("a",), ("-",)]), [("-",), ("10",), ("9",), ("a",)])
        # by the wide words, not by the text that is written
        self.assertEqual(ordered([("b", "a"), ("a", "b")]), [("a", "b"), ("b", "a")])

    def test_ordered_tells_each_once(self):
        self.assertEqual(ordered([("a",), ("a",), ("a",)]), [("a",)])

    def test_nothing_handed_in_is_changed_and_lists_are_the_askers_own(self):
        names = [("b",), ("a",), ("b",)]
        told = ordered(names)
        self.assertEqual(names, [("b",), ("a",), ("b",)])
        names.clear()
        self.assertEqual(told, [("a",), ("b",)])
        whole = [("a",), ("b",)]
        told = ordered(whole)
        told.append(("c",))
        self.assertEqual(whole, [("a",), ("b",)])
        self.assertEqual(ordered(whole), [("a",), ("b",)])
        told = above(("a", "b"))
        told.clear()
        self.assertEqual(above(("a", "b")), [(), ("a",), ("a", "b")])


class WritingTest(unittest.TestCase):
    def test_show_name(self):
        for name, expected in (
            ((), "."),
            (("north",), "north."),
            (("north", "mill"), "mill.north."),
            (TEN, "j.i.h.g.f.e.d.c.b.a."),
            (("*",), "*."),
            (("north", "*"), "*.north."),
            (("a", "b", "*"), "*.b.a."),
            ((LONG, "-"), "-." + LONG + "."),
        ):
            with self.subTest(name=name):
                self.assertEqual(show_name(name), expected)


class ReadingTest(unittest.TestCase):
    def refused(self, text, top=None, star=False):
        with self.subTest(text=text, top=top, star=star):
            with self.assertRaises(NoName) as caught:
                read_name(text, top, star)
            self.assertIs(caught.exception.__class__, NoName)

    def test_arguments(self):
        parameters = inspect.signature(read_name).parameters
        self.assertEqual(
            [(name, one.default) for name, one in parameters.items()],
            [("text", inspect.Parameter.empty), ("top", None), ("star", False)])

    def test_what_is_written_is_read_back(self):
        for name in some_names(1, 220):
            with self.subTest(name=name):
                self.assertEqual(read_name(show_name(name)), name)
                self.assertEqual(read_name(show_name(name), ("else", "where"), True), name)
                self.assertEqual(read_name(show_name(name).upper(), TEN), name)
                starred = name[:9] + ("*",)
                self.assertEqual(read_name(show_name(starred), ("else", "where"), True), starred)
                self.refused(show_name(starred))

    def test_below_a_top(self):
        self.assertEqual(read_name("old.mill", ("north",)), ("north", "mill", "old"))
        self.assertEqual(read_name("mill", ("north",)), ("north", "mill"))
        self.assertEqual(read_name("old.mill"), ("mill", "old"))
        self.assertEqual(read_name("old.mill", None), ("mill", "old"))
        self.assertEqual(read_name("old.mill", ()), ("mill", "old"))
        self.assertEqual(read_name("old.mill.", ("north",)), ("mill", "old"))
        self.assertEqual(read_name(".", ("north",)), ())
        self.assertEqual(read_name("."), ())

    def test_the_top_itself(self):
        self.assertEqual(read_name("@"), ())
        self.assertEqual(read_name("@", ("north", "mill")), ("north", "mill"))
        self.assertEqual(read_name("@", ("north",), True), ("north",))
        self.assertEqual(read_name("@", TEN), TEN)
        for text in ("@.", "@.north", "mill.@", "mill.@.", "@@", "a@", ".@"):
            self.refused(text, ("north",))

    def test_great_letters(self):
        self.assertEqual(read_name("Old.MILL", ("north",)), ("north", "mill", "old"))
        self.assertEqual(read_name("ABCDEFGHIJKL.MNOPQRSTUVWX.YZ."), ("yz", "mnopqrstuvwx", "abcdefghijkl"))
        self.assertEqual(read_name("*.MILL", ("north",), True), ("north", "mill", "*"))

    def test_words(self):
        self.assertEqual(read_name("a"), ("a",))
        self.assertEqual(read_name("-"), ("-",))
        self.assertEqual(read_name("0"), ("0",))
        self.assertEqual(read_name("-a-.0-9."), ("0-9", "-a-"))
        self.assertEqual(read_name(LONG), (LONG,))
        self.assertEqual(read_name(LONG + "." + LONG + "."), (LONG, LONG))
        for text in (LONG + "x", LONG + "x.", "a." + LONG + "x", LONG + "x.a."):
            self.refused(text)

    def test_each_other_sign_is_refused(self):
        for number in range(32, 127):
            sign = chr(number)
            if sign.lower() in SIGNS or sign in ".@":
                continue
            for text in (sign, "a" + sign, sign + "a", "a" + sign + "b", "a." + sign, sign + ".a", sign + ".a."):
                self.refused(text)
                if not text.startswith("*") or text == "*a":
                    self.refused(text, ("north",), True)

    def test_line_feeds_and_blanks(self):
        for text in ("\n", "a\n", "\na", "a.\n", ".\n", "@\n", " ", " a", "a ", "a .b", "a. ", " .", " @"):
            self.refused(text)
            self.refused(text, ("north",), True)

    def test_letters_of_other_kinds(self):
        # U+212A and U+0130 have small letters from a to z in them; U+0663 is a figure to Python
        for text in ("\u212a", "\u0130", "a\u0663", "\xe9", "a\u212a."):
            self.refused(text)

    def test_points(self):
        for text in ("", "..", ".a", ".a.", "a..b", "a..b.", "a..", "...", ".@.", "*.."):
            self.refused(text)
            self.refused(text, ("north",))
            self.refused(text, ("north",), True)

    def test_ten_words_and_eleven(self):
        ten = show_name(TEN)
        self.assertEqual(read_name(ten), TEN)
        self.assertEqual(read_name(ten[:-1]), TEN)
        self.assertEqual(read_name(ten, TEN), TEN)
        self.assertEqual(read_name("j", TEN[:9]), TEN)
        self.assertEqual(read_name("j.i.h", TEN[:7]), TEN)
        self.refused("k." + ten)
        self.refused("k." + ten[:-1])
        self.refused(ten[:-1], ("north",))
        self.refused("k", TEN)
        self.refused("k.j", TEN[:9])

    def test_ten_words_and_eleven_with_a_star(self):
        self.assertEqual(read_name("*", TEN[:9], True), TEN[:9] + ("*",))
        self.assertEqual(read_name("*." + show_name(TEN[:9]), TEN, True), TEN[:9] + ("*",))
        self.refused("*", TEN, True)
        self.refused("*.j", TEN[:9], True)
        self.refused("*." + show_name(TEN), None, True)
        self.refused("*." + show_name(TEN)[:-1], None, True)

    def test_stars(self):
        self.assertEqual(read_name("*", None, True), ("*",))
        self.assertEqual(read_name("*.", ("north",), True), ("*",))
        self.assertEqual(read_name("*", ("north",), True), ("north", "*"))
        self.assertEqual(read_name("*.mill", ("north",), True), ("north", "mill", "*"))
        self.assertEqual(read_name("*.mill.", ("north",), star=True), ("mill", "*"))
        self.assertEqual(read_name("mill", ("north",), star=True), ("north", "mill"))
        for text in ("*", "*.", "*.mill", "*.mill."):
            self.refused(text)
            self.refused(text, ("north",))
        for text in ("mill.*", "mill.*.", "*.*", "*.*.", "a.*.b", "a.*.b.", "**", "*a", "a*", "*a.b", ".*", "*@", "**."):
            self.refused(text, ("north",), True)
            self.refused(text, ("north",))

    def test_what_is_no_text(self):
        for thing in (None, 0, 1, True, False, 10 ** 5000, 1.5, (), ("a",), [], ["a"], {}, b"a", b".", object()):
            for star in (False, True):
                with self.assertRaises(NoName):
                    read_name(thing, ("north",), star)

    def test_long_texts(self):
        for text in ("a" * 10000, "a." * 5000, "." * 10000, "*" * 10000, "*." * 5000, "@" * 10000, " " * 10000):
            self.refused(text, None, True)
        self.assertEqual(read_name("mill", ("north",)), ("north", "mill"))


if __name__ == "__main__":
    unittest.main()
