"""What a zone tells of a name: its cut, whether it stands, and the reply to a question."""

from namewell.names import STAR, above, at_or_beneath, is_star_name
from namewell.rows import DOWN, ELSE

# The kind whose values are doors.
DOOR = "door"

# The first words of the other replies.
ROWS = "rows"
EMPTY = "empty"
NONE = "none"


def cut_of(zone, N):
    return Page(zone).cut(N)


def stands(zone, N):
    return Page(zone).has(N)


def told(zone, N, K):
    return Page(zone).reply(N, K)


# A zone laid out by the names of its rows, as many questions may be asked of a large one.
class Page:
    def __init__(self, zone):
        self.top = zone[0]
        self.life = zone[1]
        self.rows = {}
        self.downs = {}
        self.standing = {zone[0]: True}
        for row in zone[2]:
            self.lay(row)

    def lay(self, row):
        self.rows.setdefault(row[0], []).append(row)
        if row[2] == DOWN:
            self.downs[row[0]] = row
        name = row[0]
        # above a name that stands all stand already, up to the top
        while name not in self.standing:
            self.standing[name] = True
            name = name[:-1]

    def has(self, name):
        return name in self.standing

    def cut(self, name):
        for wider in above(name)[len(self.top) + 1:]:
            if wider in self.downs:
                return wider
        return None

    def own_cuts(self):
        return [name for name in self.downs if self.cut(name) == name]

    def reply(self, name, kind):
        cut = self.cut(name)
        if cut is not None:
            return self.reply_down(cut)
        return self.reply_at(self.place_of(name), kind)

    def reply_down(self, cut):
        down = self.downs[cut]
        house = down[3]
        doors = self.rows_at(house, DOOR) if at_or_beneath(house, cut) else []
        return (DOWN, cut, house, values_of(doors), least_life([down] + doors))

    def place_of(self, name):
        nearest = [wider for wider in above(name) if self.has(wider)][-1]
        return name if nearest == name else nearest + (STAR,)

    def reply_at(self, place, kind):
        if is_star_name(place) and place not in self.rows:
            return (NONE, self.life)
        others = self.rows_at(place, ELSE)
        if others != []:
            return (ELSE, others[0][3], others[0][1])
        rows = self.rows_at(place, kind)
        if rows != []:
            return (ROWS, values_of(rows), least_life(rows))
        return (EMPTY, self.life)

    def rows_at(self, place, kind):
        return [row for row in self.rows.get(place, []) if row[2] == kind]


def values_of(rows):
    return sorted([row[3] for row in rows])


def least_life(rows):
    return min([row[1] for row in rows])
