"""What is promised over the whole program ([3], [32], [34]), on worlds, questions and changes by chance with a
fixed beginning, and on large ones."""

import unittest

from namewell.asker import Asker
from namewell.desk import Desk
from namewell.houses import asked
from namewell.looker import looked
from namewell.names import show_name
from namewell.tree import truth
from namewell.world import World
from namewell.zones import show_zone
from tests.worlds import some_change, some_question, worlds_by_chance

# the longest life of a zone or a row in worlds by chance
LONGEST = 9


def told_then(houses, ground):
    """whether these houses tell the ground"""
    return asked(houses, *ground[1:5])[0] == ground[5]


def last_turn(answer):
    """the last turn up to which no ground of the answer has outlived its turn and life together"""
    return min([one[0] + one[5][-1] for one in answer[3]])


def count(seen, *events):
    for event in events:
        seen[event] = seen.get(event, 0) + 1


class WholeCase(unittest.TestCase):
    def holds(self, world, question, answer):
        """what holds of each answer, whatever changed"""
        self.assertIs(looked(world.root(), world.turn(), question[0], question[1], answer), True)
        asks = [one[1:] for one in answer[4]]
        self.assertEqual(len(asks), len(set(asks)), asks)

    def is_true(self, world, question, answer):
        self.assertEqual(answer[:3], truth(world.houses(), world.root(), question[0], question[1]))


class StandingTest(WholeCase):
    """houses that stay as they are"""

    def test_the_outcome_is_the_truth(self):
        seen = {}
        for source, houses, world in worlds_by_chance(400):
            askers = [Asker(world), Asker(world, False)]
            for step in range(25):
                world.wait(source.choice((0, 0, 0, 1, 2, 6)))
                if source.randint(0, 20) == 0:
                    askers[0].clear()
                question = some_question(source, world)
                for asker in askers:
                    answer = asker.ask(question[0], question[1])
                    with self.subTest(houses=houses, question=question):
                        self.is_true(world, question, answer)
                        self.holds(world, question, answer)
                        why = "door" if "door" in [one[0] for one in answer[2]] else "else"
                        count(seen, (answer[0], why), "asked" if answer[4] else "known")
        for event in (("rows", "else"), ("empty", "else"), ("none", "else"), ("lost", "else"), ("lost", "door"),
                      ("ring", "else"), ("ring", "door"), "asked", "known"):
            self.assertGreater(seen[event], 100, event)

    def test_from_when_all_was_let_go(self):
        otherwise = 0
        for source, houses, world in worlds_by_chance(200):
            asker = Asker(world)
            for step in range(4):
                questions = [some_question(source, world) for again in range(8)]
                for question in questions:
                    asker.ask(question[0], question[1])
                some_change(source, world, houses)
                for question in questions:
                    remembered = asker.ask(question[0], question[1])
                    otherwise += remembered[:3] != truth(world.houses(), "r", question[0], question[1])
                asker.clear()
                for question in questions:
                    self.is_true(world, question, asker.ask(question[0], question[1]))
        self.assertGreater(otherwise, 100)


class ChangingTest(WholeCase):
    """houses that change"""

    def test_each_answer_rests_on_its_grounds(self):
        seen = {}
        for source, houses, world in worlds_by_chance(300):
            asker = Asker(world)
            history = {world.turn(): world.houses()}
            questions = []
            for step in range(40):
                deed = source.randint(0, 9)
                if deed == 0:
                    for turn in range(source.randint(0, 4)):
                        world.wait(1)
                        history[world.turn()] = world.houses()
                elif deed < 3:
                    some_change(source, world, houses)
                    history[world.turn()] = world.houses()
                else:
                    question = source.choice(questions) if questions and deed < 6 else some_question(source, world)
                    questions.append(question)
                    answer = asker.ask(question[0], question[1])
                    with self.subTest(houses=houses, step=step, question=question):
                        self.rests(world, history, question, answer, seen)
        for event in ("true", "old", "not true", ("away", "old"), ("rows", "old"), ("ring", "old"), ("lost", "old")):
            self.assertGreater(seen.get(event, 0), 10, event)

    def rests(self, world, history, question, answer, seen):
        self.holds(world, question, answer)
        for one in answer[3]:
            self.assertTrue(told_then(history[one[0]], one), one)
        houses = world.houses()
        # [34]: told by houses as they stand, the answer is the truth
        if all([told_then(houses, one) for one in answer[3]]):
            self.is_true(world, question, answer)
            count(seen, "true")
        else:
            count(seen, "old", (answer[0], "old"), (answer[3][-1][5][0], "old"))
        if answer[:3] != truth(houses, "r", question[0], question[1]):
            count(seen, "not true")

    def test_the_same_again_while_the_grounds_hold(self):
        seen = {}
        for source, houses, world in worlds_by_chance(300):
            asker = Asker(world)
            answers = {}
            for step in range(40):
                if source.randint(0, 3) == 0:
                    some_change(source, world, houses)
                    world.wait(source.choice((0, 0, 1, 2)))
                question = some_question(source, world)
                answer = asker.ask(question[0], question[1])
                if answer[0] in ("rows", "empty", "none"):
                    answers[question] = answer
                for question in sorted(answers):
                    again = asker.ask(question[0], question[1])
                    if last_turn(answers[question]) >= world.turn():
                        self.assertEqual(again, answers[question][:4] + ([],))
                        count(seen, "same", (again[0], "same"))
                        if again[:3] != truth(world.houses(), "r", question[0], question[1]):
                            count(seen, "changed between")
                    else:
                        answers.pop(question)
                        count(seen, "asked again" if again[4] else "told meanwhile")
        for event in ("same", ("rows", "same"), ("empty", "same"), ("none", "same"), "changed between", "asked again"):
            self.assertGreater(seen.get(event, 0), 50, event)

    def test_once_nothing_has_changed_for_longer_than_every_life(self):
        otherwise = 0
        for source, houses, world in worlds_by_chance(200):
            desk = Desk("r")
            self.tell(desk, {}, world.houses())
            for step in range(4):
                questions = [some_question(source, world) for again in range(10)]
                rows = [f"{show_name(one[0])} {one[1]}" for one in questions]
                for row in rows:
                    desk.say("ask " + row)
                before = world.houses()
                for again in range(source.randint(1, 4)):
                    some_change(source, world, houses)
                self.tell(desk, before, world.houses())
                otherwise += [desk.say("ask " + row) for row in rows] != [desk.say("truth " + row) for row in rows]
                desk.say(f"wait {LONGEST + 1}")
                for row in rows:
                    with self.subTest(houses=houses, step=step, row=row):
                        self.assertEqual(desk.say("ask " + row), desk.say("truth " + row))
        self.assertGreater(otherwise, 100)

    def tell(self, desk, before, after):
        """brings the desk's houses, row by row, from those before to those after"""
        for door in before:
            tops = [zone[0] for zone in after.get(door, [])]
            for zone in before[door]:
                if zone[0] not in tops:
                    desk.say(f"drop {door} {show_name(zone[0])}")
        for door in after:
            for zone in after[door]:
                if zone not in before.get(door, []):
                    desk.say(f"put {door}\n{show_zone(zone)}")


def chain_world(doors):
    """a hundred zones of about three hundred rows, and one chain of other names through all of them"""
    rows = {number: [] for number in range(99)}
    for step in range(99 * 300 - 1):
        here = (f"t{step % 99}", f"n{step // 99}")
        rows[step % 99].append((here, 5, "else", (f"t{(step + 1) % 99}", f"n{(step + 1) // 99}")))
    rows[98].append((("t98", "n299"), 5, "text", "end"))
    downs = [((f"t{number}",), 5, "down", ("h", f"t{number}")) for number in range(99)]
    world = World("r")
    world.put("r", ((), 5, downs + [(row[3], 5, "door", doors[number]) for number, row in enumerate(downs)]))
    for number in range(99):
        world.put(doors[number], ((f"t{number}",), 5, rows[number]))
    return world


class LargeTest(WholeCase):
    def test_a_long_chain_of_other_names(self):
        # each name is asked for, or all of a zone are told at once where one house keeps all zones
        question = (("t0", "n0"), "text")
        for doors, many in (([f"d{number}" for number in range(99)], 29700 + 198), (["d"] * 99, 99 + 198)):
            world = chain_world(doors)
            answer = Asker(world).ask(question[0], question[1])
            self.is_true(world, question, answer)
            self.holds(world, question, answer)
            self.assertEqual((answer[0], len(answer[2]), len(answer[3])), ("rows", 29700, 29700 + 198))
            self.assertEqual((len(answer[4]), world.asks()), (many, many))

    def test_a_hundred_doors_one_behind_another(self):
        # the door of each zone is told by the next one's house alone
        world = World("r")
        rows = [((f"t{number}",), 5, "down", (f"t{number + 1}", "h")) for number in range(98)]
        world.put("r", ((), 5, rows + [(("t98",), 5, "down", ("t98", "h")), (("t98", "h"), 5, "door", "d98")]))
        for number in range(1, 99):
            others = [((f"t{number}", f"w{row}"), 5, "text", "v") for row in range(299)]
            world.put(f"d{number}", ((f"t{number}",), 5, [((f"t{number}", "h"), 5, "door", f"d{number - 1}")] + others))
        question = (("t0", "x"), "text")
        answer = Asker(world).ask(question[0], question[1])
        self.is_true(world, question, answer)
        self.holds(world, question, answer)
        self.assertEqual((answer[0], len(answer[2]), len(answer[4])), ("lost", 1, 99 + 98 + 1))
        world.put("d0", (("t0",), 5, [(("t0", "x"), 5, "text", "v")]))
        answer = Asker(world).ask(question[0], question[1])
        self.assertEqual(answer[:2], ("rows", ["v"]))
        self.holds(world, question, answer)

    def test_many_questions(self):
        desk = Desk("r")
        downs = [f"t{number} 5 down t{number}\nt{number} 5 door d{number % 7}" for number in range(99)]
        desk.say("put r\nzone . 5\n" + "\n".join(downs))
        for number in range(99):
            rows = [f"n{row} 9 {'else m' if row % 3 else 'text v'}{row}" for row in range(300)]
            desk.say(f"put d{number % 7}\nzone t{number}. 5\n" + "\n".join(rows))
        for step in range(3000):
            row = f"n{step % 300}.t{step * 7 % 99} text"
            answer = desk.say("ask " + row)
            self.assertEqual(answer.split(" ")[0], "none" if step % 3 else "rows")
            if step % 50 == 0:
                self.assertEqual(answer, desk.say("truth " + row))
                desk.say("wait 1")


if __name__ == "__main__":
    unittest.main()
