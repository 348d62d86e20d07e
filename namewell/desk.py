"""The desk: a world and an asker behind rows of text, each told and answered by itself."""

from namewell.asker import Asker
from namewell.errors import NoDeed, NoKind
from namewell.names import read_name, show_name
from namewell.rows import is_kind, is_value, names_a_name, read_life
from namewell.told import ROWS
from namewell.tree import truth
from namewell.world import World
from namewell.zones import read_zone

# What a row that puts a zone begins with; its door and its zone's text are parted by a line feed.
PUT = "put "


def show_outcome(word, values, waits):
    words = [word] + [show_name(wait[1]) for wait in waits]
    if word == ROWS:
        words = words + ["="] + values
    return " ".join(words)


def read_question(name, kind):
    found = read_name(name)
    if not is_kind(kind) or names_a_name(kind):
        raise NoKind("a question has a plain kind")
    return (found, kind)


def refuse_no_door(text):
    if not is_value(text):
        raise NoDeed("a door is a value")


class Desk:
    def __init__(self, root):
        self.world = World(root)
        self.asker = Asker(self.world)

    def say(self, row):
        if not isinstance(row, str):
            raise NoDeed("a row is a text")
        if row.startswith(PUT):
            return self.say_put(row)
        words = row.split(" ")
        deed = (words[0], len(words))
        if deed == ("drop", 3):
            return self.say_drop(words[1], words[2])
        if deed == ("wait", 2):
            return self.say_wait(words[1])
        if deed == ("ask", 3):
            return self.say_ask(words[1], words[2])
        if deed == ("truth", 3):
            return self.say_truth(words[1], words[2])
        if deed == ("asks", 1):
            return str(self.world.asks())
        if deed == ("clear", 1):
            self.asker.clear()
            return "ok"
        raise NoDeed("there is no such row")

    def say_turn(self):
        turn = self.world.turn()
        return f"turn {turn}"

    def say_put(self, row):
        parts = row.partition("\n")
        door = parts[0][len(PUT):]
        refuse_no_door(door)
        if parts[1] == "":
            raise NoDeed("a zone is put by its text")
        self.world.put(door, read_zone(parts[2]))
        return self.say_turn()

    def say_drop(self, door, name):
        refuse_no_door(door)
        self.world.drop(door, read_name(name))
        return self.say_turn()

    def say_wait(self, text):
        turns = read_life(text)
        if turns is None:
            raise NoDeed("turns are written as a life")
        self.world.wait(turns)
        return self.say_turn()

    def say_ask(self, name, kind):
        question = read_question(name, kind)
        answer = self.asker.ask(question[0], question[1])
        return show_outcome(answer[0], answer[1], answer[2])

    def say_truth(self, name, kind):
        question = read_question(name, kind)
        outcome = truth(self.world.houses(), self.world.root(), question[0], question[1])
        return show_outcome(outcome[0], outcome[1], outcome[2])
