"""Of which signs a text is made."""

SMALL_LETTERS = "abcdefghijklmnopqrstuvwxyz"
FIGURES = "0123456789"


def made_of(text, signs):
    # strip leaves nothing of a text just where no other sign stands in it
    return text.strip(signs) == ""
