"""Names: how they lie to one another, how they are written and read."""

from namewell.errors import NoName
from namewell.signs import made_of

# Great letters are among them, as a name may be read from them.
WORD_SIGNS = "abcdefghijklmnopqrstuvwxyzABCDEFGHIJKLMNOPQRSTUVWXYZ0123456789-"
LONGEST_WORD = 12
MOST_WORDS = 10
STAR = "*"


def at_or_beneath(name, top):
    return name[:len(top)] == top


def above(name):
    return [name[:length] for length in range(len(name) + 1)]


def shared(one, other):
    both = [name for name in above(one) if at_or_beneath(other, name)]
    return both[-1]


def ordered(names):
    # Python compares tuples just as names are compared
    return sorted(set(names))


def is_star_name(name):
    return name[-1:] == (STAR,)


def show_name(name):
    return ".".join(reversed(name)) + "."


def read_name(text, top=None, star=False):
    # the words of a refusal leave out what was handed in: not everything can be shown
    if not isinstance(text, str):
        raise NoName("a name is read from a text alone")
    name = read_below(text, () if top is None else top, star)
    if len(name) > MOST_WORDS:
        raise NoName("a name has at most ten words")
    return name


def read_below(text, top, star):
    if text == "@":
        return top
    if text == ".":
        return ()
    if text.endswith("."):
        return read_words(text[:-1], star)
    return top + read_words(text, star)


def read_words(text, star):
    parts = text.split(".")
    wider = [read_word(part) for part in reversed(parts[1:])]
    return tuple(wider) + (read_narrowest(parts[0], star),)


def read_narrowest(text, star):
    if star and text == STAR:
        return STAR
    return read_word(text)


def read_word(text):
    # the signs are looked at first: lower would make small letters of foreign ones, too
    if not 1 <= len(text) <= LONGEST_WORD or not made_of(text, WORD_SIGNS):
        raise NoName("a word has one to twelve letters, figures and -")
    return text.lower()
