"""Zones: how they are written and read, and what is wrong with them."""

from namewell.errors import BadCut, BadName, BadRow, Clash, NoName, Outside
from namewell.names import at_or_beneath, is_star_name, read_name, show_name
from namewell.rows import DOWN, ELSE, is_kind, is_value, names_a_name, read_life


def show_zone(zone):
    top = show_name(zone[0])
    life = zone[1]
    lines = [f"zone {top} {life}"] + [show_row(row) for row in zone[2]]
    return "\n".join(lines)


def show_row(row):
    name = show_name(row[0])
    life = row[1]
    kind = row[2]
    value = show_name(row[3]) if names_a_name(kind) else row[3]
    return f"{name} {life} {kind} {value}"


def read_zone(text):
    lines = told_lines(text)
    if lines == []:
        raise BadRow(0)
    head = read_head(lines[0][0], lines[0][1])
    top = head[0]
    rows = []
    for number, line in lines[1:]:
        row = read_row(number, line, top, rows)
        refuse_cut(number, row, top)
        refuse_clash(number, row, rows)
        rows.append(row)
    return (top, head[1], rows)


def told_lines(text):
    # what is no text is refused like one without lines
    if not isinstance(text, str):
        return []
    lines = [(number, line.rstrip(" ")) for number, line in enumerate(text.split("\n"), 1)]
    return [pair for pair in lines if pair[1] != "" and not pair[1].startswith(";")]


def words_of(line):
    return [word for word in line.split(" ") if word != ""]


def read_head(number, line):
    words = words_of(line)
    if line.startswith(" ") or len(words) != 3 or words[0] != "zone":
        raise BadRow(number)
    if not words[1].endswith("."):
        raise BadName(number)
    top = read_name_at(number, words[1], (), False)
    return (top, read_life_at(number, words[2]))


def read_row(number, line, top, rows):
    words = words_of(line)
    if line.startswith(" "):
        if len(words) != 3 or rows == []:
            raise BadRow(number)
        return read_rest(number, rows[-1][0], words, top)
    if len(words) != 4:
        raise BadRow(number)
    name = read_name_at(number, words[0], top, True)
    if not at_or_beneath(name, top):
        raise Outside(number)
    return read_rest(number, name, words[1:], top)


def read_rest(number, name, words, top):
    life = read_life_at(number, words[0])
    kind = words[1]
    if not is_kind(kind):
        raise BadRow(number)
    return (name, life, kind, read_value_at(number, kind, words[2], top))


def read_name_at(number, text, top, star):
    try:
        return read_name(text, top, star)
    except NoName:
        raise BadName(number) from None


def read_life_at(number, text):
    life = read_life(text)
    if life is None:
        raise BadRow(number)
    return life


def read_value_at(number, kind, text, top):
    if names_a_name(kind):
        return read_name_at(number, text, top, False)
    if not is_value(text):
        raise BadRow(number)
    return text


def refuse_cut(number, row, top):
    if row[2] == DOWN and (row[0] == top or is_star_name(row[0])):
        raise BadCut(number)


def refuse_clash(number, row, rows):
    for other in rows:
        if other[0] == row[0] and clashes(row, other):
            raise Clash(number)


def clashes(row, other):
    if row[2] == ELSE or other[2] == ELSE:
        return True
    # one down row is all that a name may have, whatever it names
    return row[2] == other[2] and (row[2] == DOWN or row[3] == other[3])
