"""What a row is made of: kinds, values and lives."""

from namewell.signs import FIGURES, SMALL_LETTERS, made_of

# The kinds whose values are names.
ELSE = "else"
DOWN = "down"

LONGEST_KIND = 8
LONGEST_VALUE = 40
LONGEST_LIFE = 9

# By their numbers, as the percent sign stands in no text of the program.
FIRST_SIGN = 33
LAST_SIGN = 126
PERCENT_SIGN = 37


def is_kind(text):
    return 1 <= len(text) <= LONGEST_KIND and made_of(text, SMALL_LETTERS)


def names_a_name(kind):
    return kind == ELSE or kind == DOWN


def is_value(text):
    return 1 <= len(text) <= LONGEST_VALUE and all([is_value_sign(sign) for sign in text])


def is_value_sign(sign):
    number = ord(sign)
    return FIRST_SIGN <= number <= LAST_SIGN and number != PERCENT_SIGN


def read_life(text):
    if not 1 <= len(text) <= LONGEST_LIFE or not made_of(text, FIGURES):
        return None
    if len(text) > 1 and text.startswith("0"):
        return None
    return int(text)
