"""Answers looked through: whether an answer is borne out by its grounds, told without any house."""

from namewell.houses import AWAY
from namewell.memory import Memory, doors_in, key_of
from namewell.names import at_or_beneath
from namewell.rows import ELSE
from namewell.told import DOOR, EMPTY, NONE, ROWS
from namewell.tree import ASKED, LOST, RING

# All grounds are kept as of one turn, so that all of them hold at it.
HELD = 0


def looked(root, turn, N, K, answer):
    waits = answer[2]
    memory = Memory()
    for place, ground in enumerate(answer[3], 1):
        if not is_timely(ground, turn, place == len(answer[3])) or not is_told(ground, root, memory):
            return False
        if ground[5][0] != AWAY:
            if memory.until(key_of(ground), HELD) is not None:
                return False
            memory.keep((HELD,) + ground[1:], [])
    if waits[:1] != [(ASKED, N, K)] or not are_led(waits, memory) or not are_apart(waits, answer[0]):
        return False
    return answer[1] == values_for(answer[0], waits, answer[3], memory)


def is_timely(ground, turn, is_last):
    reply = ground[5]
    if reply[0] == AWAY:
        return is_last and ground[0] == turn
    return turn - reply[-1] <= ground[0] <= turn


# By the memory, in which the grounds ahead of it are.
def is_told(ground, root, memory):
    door = ground[1]
    top = ground[2]
    if not at_or_beneath(ground[3], top):
        return False
    if top == () and door == root:
        return True
    handed = memory.handed(top, HELD)
    if handed is None or handed[5][1] != top:
        return False
    found = memory.entrance(handed, HELD)
    return found != [] and doors_in(found[-1])[:1] == [door]


def are_led(waits, memory):
    return all([is_led(wait, ahead, memory) for ahead, wait in zip(waits, waits[1:])])


def is_led(wait, ahead, memory):
    if wait[0] == ELSE:
        known = memory.known(ahead[1], ahead[2], HELD)
        return known is not None and known[5][0] == ELSE and wait == (ELSE, known[5][1], ahead[2])
    handed = memory.handed(ahead[1], HELD)
    return handed is not None and doors_in(handed) == [] and wait == (DOOR, handed[5][2], DOOR)


def are_apart(waits, word):
    questions = [wait[1:] for wait in waits]
    if word == RING:
        last = questions.pop()
        return last in questions and len(set(questions)) == len(questions)
    return len(set(questions)) == len(questions)


# The values that belong to a word, or None where the word itself is not borne out.
def values_for(word, waits, grounds, memory):
    last = waits[-1]
    known = memory.known(last[1], last[2], HELD)
    reply = (AWAY,) if known is None else known[5]
    behind_door = DOOR in [wait[0] for wait in waits]
    if word == RING:
        return []
    if word == LOST:
        is_lost = behind_door and reply[0] in (EMPTY, NONE) or known is None and is_away(last, grounds, memory)
        return [] if is_lost else None
    if behind_door or reply[0] != word or word not in (ROWS, EMPTY, NONE):
        return None
    return reply[1] if word == ROWS else []


def is_away(wait, grounds, memory):
    top = memory.top_for(wait[1], HELD)
    return (top, wait[1], wait[2], (AWAY,)) in [ground[2:] for ground in grounds]
