"""Tables of makers: slicewise.makers."""

import copy
import random
import unittest

from helper import ALL_WORDS, NO_FUNCTIONS, inputs_of, members, programs, rows_of, set_of
from slicewise.makers import closed, holds, keeps, makers
from slicewise.programs import shape
from slicewise.runs import run


def kind_of(key):
    return key if isinstance(key, str) and key.startswith(".") else "#"


def asked(program, facts):
    """What a closed table has to have beyond the facts, each a tuple (word, home or row, name or class, maker)."""
    heads, ends, elses, homes = shape(program)
    starts = {row[1]: place for place, row in enumerate(program) if row[0] == "def"}

    def of_name(home, name):
        return [fact[3] for fact in facts if fact[:3] == ("name", home, name)]

    def of_cells(rows, kind):
        return [fact[3] for fact in facts if fact[0] == "cell" and fact[1] in rows and fact[2] == kind]

    for place, row in enumerate(program):
        home = homes[place]
        if row[0] == "new":
            yield "name", home, row[1], place
        elif row[0] == "put":
            for maker in of_name(home, row[2]):
                yield "name", home, row[1], maker
        elif row[0] == "get":
            for maker in of_cells(of_name(home, row[2]), kind_of(row[3])):
                yield "name", home, row[1], maker
        elif row[0] == "set":
            for record in of_name(home, row[1]):
                for maker in of_name(home, row[3]):
                    yield "cell", record, kind_of(row[2]), maker
        elif row[0] == "call":
            start = starts[row[2]]
            for name, operand in zip(program[start][2], row[3]):
                for maker in of_name(home, operand):
                    yield "name", start, name, maker
            for maker in of_name(start, program[ends[start]][1]):
                yield "name", home, row[1], maker


def grown(program, facts):
    facts = set(facts)
    while True:
        more = facts | set(asked(program, facts))
        if more == facts:
            return facts
        facts = more


def facts_of(table):
    return {(word, part[0], part[1], maker) for word, parts in zip(("name", "cell"), table)
            for part in parts for maker in members(part[2])}


def table_of(facts):
    told = []
    for word in ("name", "cell"):
        keys = sorted({fact[1:3] for fact in facts if fact[0] == word})
        told.append([key + (set_of(fact[3] for fact in facts if fact[:3] == (word,) + key),) for key in keys])
    return tuple(told)


def some_fact(chance, program):
    news = [place for place, row in enumerate(program) if row[0] == "new"]
    homes = [place for place, row in enumerate(program) if row[0] == "def"]
    if chance.random() < 0.6:
        return "name", chance.choice(homes), chance.choice(["x", "y", "r", "q", "s"]), chance.choice(news)
    return "cell", chance.choice(news), chance.choice([".a", ".b", "#"]), chance.choice(news)


class Tables(unittest.TestCase):
    def told(self, text, names, cells):
        program = rows_of(text)
        self.assertEqual(makers(program), (names, cells))
        self.assertIs(closed(program, (names, cells)), True)

    def test_new_and_put(self):
        self.told("def main / new r / put q r / put r 5 / put z 0 / give q", [(0, "q", 2), (0, "r", 2)], [])
        self.told("def main / new r / new r / put q r / give 0", [(0, "q", 6), (0, "r", 6)], [])
        # A name has what it may hold anywhere in its function, also ahead of the row that makes it.
        self.told("def main / put q r / new r / give 0", [(0, "q", 4), (0, "r", 4)], [])
        self.told("def main / put r r / do x r plus r / give r", [], [])

    def test_do_holds_no_record(self):
        self.told("def main / new r / do x r plus 0 / give x", [(0, "r", 2)], [])

    def test_set_and_get_by_field(self):
        self.told("def main / new r / new q / set r .a q / get x r .a / get y r .b / get z q .a / give 0",
                  [(0, "q", 4), (0, "r", 2), (0, "x", 4)], [(1, ".a", 4)])
        self.told("def main / new r / set r .a 5 / get x r .a / set x .a r / give 0", [(0, "r", 2)], [])

    def test_class_of_operands(self):
        # A cell by a name and one by a number are of one class.
        self.told("def main k / new r / set r k r / get x r 7 / get y r .k / give 0",
                  [(0, "r", 2), (0, "x", 2)], [(1, "#", 2)])
        self.told("def main k / new r / set r 1 r / get x r k / give 0", [(0, "r", 2), (0, "x", 2)], [(1, "#", 2)])

    def test_chains_of_records(self):
        self.told("def main n / new r / while n / new q / set q .a r / put r q / end / get x r .a / give x",
                  [(0, "q", 8), (0, "r", 10), (0, "x", 10)], [(3, ".a", 10)])

    def test_calls(self):
        self.told("def main / new r / call x f r 5 / give x / def f p q / put q q / give p",
                  [(0, "r", 2), (0, "x", 2), (4, "p", 2)], [])
        self.told("def main / new r / call x f r / give x / def f r / new q / set r .a q / give q",
                  [(0, "r", 2), (0, "x", 32), (4, "q", 32), (4, "r", 2)], [(1, ".a", 32)])

    def test_a_call_whose_function_gives_a_number(self):
        self.told("def main / new r / call x f r / give x / def f p / give 0", [(0, "r", 2), (4, "p", 2)], [])

    def test_two_calls_come_together(self):
        self.told("def main / new r / new q / call x f r / call y f q / give x / def f p / give p",
                  [(0, "q", 4), (0, "r", 2), (0, "x", 6), (0, "y", 6), (6, "p", 6)], [])

    def test_the_same_name_in_two_functions(self):
        self.told("def main / new x / call y f / give y / def f / put x x / give x", [(0, "x", 2)], [])

    def test_a_function_that_is_never_called(self):
        self.told("def main / give 0 / def f a / new r / set a .a r / set r .b r / give r", [(2, "r", 8)], [(3, ".b", 8)])

    def test_a_call_that_is_no_row_of_a_run_counts(self):
        self.told("def main / if 0 / new r / call x f r / end / give 0 / def f p / give p",
                  [(0, "r", 4), (0, "x", 4), (6, "p", 4)], [])

    def test_without_functions(self):
        for program in NO_FUNCTIONS:
            self.assertEqual(makers(program), ([], []))
            self.assertIs(closed(program, ([], [])), True)

    def test_form(self):
        for program in programs(200, "form"):
            table = makers(program)
            self.assertEqual((type(table), len(table)), (tuple, 2))
            for parts in table:
                self.assertIs(type(parts), list)
                self.assertEqual(parts, sorted(parts))
                self.assertEqual(len({part[:2] for part in parts}), len(parts))
                self.assertTrue(all(type(part) is tuple and part[2] > 0 for part in parts))

    def test_the_least_closed_one(self):
        many = 0
        for program in programs(400, "least") + [ALL_WORDS]:
            facts = grown(program, [])
            many += len(facts) > 3
            self.assertEqual(makers(program), table_of(facts), program)
        self.assertGreater(many, 100)


class Closed(unittest.TestCase):
    def test_closed_but_not_the_least(self):
        program = rows_of("def main a / new r / put q r / new s / set s .a q / give q")
        least = makers(program)
        self.assertEqual(least, ([(0, "q", 2), (0, "r", 2), (0, "s", 8)], [(3, ".a", 2)]))
        for more in [([(0, "a", 8), (0, "q", 2), (0, "r", 2), (0, "s", 8)], [(3, ".a", 2)]),
                     ([(0, "q", 10), (0, "r", 2), (0, "s", 8)], [(3, ".a", 10)]),
                     ([(0, "q", 2), (0, "r", 2), (0, "s", 8)], [(1, ".a", 2), (3, "#", 8), (3, ".a", 2)])]:
            self.assertIs(closed(program, more), True)

    def test_one_that_lacks_one_maker(self):
        program = rows_of("def main a / new r / put q r / new s / set s .a q / give q")
        for less in [([], []), ([(0, "q", 2), (0, "r", 2), (0, "s", 8)], []), ([(0, "r", 2), (0, "s", 8)], [(3, ".a", 2)]),
                     ([(0, "q", 2), (0, "s", 8)], [(3, ".a", 2)]), ([(0, "q", 2), (0, "r", 2)], [(3, ".a", 2)]),
                     ([(0, "q", 8), (0, "r", 2), (0, "s", 8)], [(3, ".a", 10)]),
                     ([(0, "q", 10), (0, "r", 2), (0, "s", 8)], [(3, ".a", 2)]),
                     ([(0, "q", 2), (0, "r", 2), (0, "s", 10)], [(3, ".a", 2)])]:
            self.assertIs(closed(program, less), False, less)

    def test_each_way_of_lacking(self):
        for text, table, right in [
            ("def main / new r / give 0", ([(0, "r", 2)], []), True), ("def main / new r / give 0", ([(0, "q", 2)], []), False),
            ("def main a / put q a / give 0", ([(0, "a", 4)], []), False),
            ("def main a / put q a / give 0", ([(0, "a", 4), (0, "q", 4)], []), True),
            ("def main a / get q a .a / give 0", ([(0, "a", 4)], [(2, ".a", 8)]), False),
            ("def main a / get q a .a / give 0", ([(0, "a", 4)], [(2, ".b", 8), (3, ".a", 8)]), True),
            ("def main a / get q a .a / give 0", ([(0, "a", 4), (0, "q", 8)], [(2, ".a", 8)]), True),
            ("def main a / set a k a / give 0", ([(0, "a", 4)], [(2, "#", 4)]), True),
            ("def main a / set a k a / give 0", ([(0, "a", 4)], [(2, ".k", 4)]), False),
            ("def main a / set a k 5 / give 0", ([(0, "a", 4)], []), True),
            ("def main a / set b k a / give 0", ([(0, "a", 4)], []), True),
            ("def main a / call x f a / give 0 / def f n / give 0", ([(0, "a", 4)], []), False),
            ("def main a / call x f a / give 0 / def f n / give 0", ([(0, "a", 4), (3, "n", 4)], []), True),
            ("def main a / call x f a / give 0 / def f n / give m", ([(0, "a", 4), (3, "m", 2), (3, "n", 4)], []), False),
            ("def main a / call x f a / give 0 / def f n / give m",
             ([(0, "a", 4), (0, "x", 2), (3, "m", 2), (3, "n", 4)], []), True),
            ("def main a / call x f 5 / give 0 / def f n / give 7", ([(0, "a", 4), (3, "n", 4)], []), True),
        ]:
            self.assertIs(closed(rows_of(text), table), right, (text, table))

    def test_tables_of_many_kinds(self):
        chance = random.Random("closed")
        seen = {True: 0, False: 0}
        for program in programs(300, "closed"):
            if not any(row[0] == "new" for row in program):
                continue
            least = grown(program, [])
            drawn = {some_fact(chance, program) for turn in range(chance.randint(1, 4))}
            for facts in [least, least | drawn, grown(program, drawn), drawn,
                          set(chance.sample(sorted(least), len(least) - 1)) | drawn]:
                right = grown(program, facts) == facts
                seen[right] += 1
                self.assertIs(closed(program, table_of(facts)), right, (program, facts))
                if right:
                    self.assertLessEqual(facts_of(makers(program)), facts)
        self.assertGreater(min(seen.values()), 100)


class HoldsAndKeeps(unittest.TestCase):
    TABLE = ([(0, "a", 6), (0, "b", 1 << 59), (3, "a", 8)], [(1, "#", 2), (1, ".a", 4), (2, ".a", 10), (70, ".b", 1)])

    def test_holds(self):
        for home, name, told in [(0, "a", 6), (0, "b", 1 << 59), (3, "a", 8), (3, "b", 0), (1, "a", 0), (0, "c", 0)]:
            self.assertEqual(holds(self.TABLE, home, name), told)
            self.assertEqual(holds(([], []), home, name), 0)

    def test_keeps(self):
        for rows, kind, told in [(0, ".a", 0), (2, ".a", 4), (4, ".a", 10), (6, ".a", 14), (2, "#", 2), (6, "#", 2), (1, "#", 0),
                                 (6, ".b", 0), (1 << 70, ".b", 1), ((1 << 70) - 1, ".b", 0), (8, ".a", 0), (2, ".c", 0)]:
            self.assertEqual(keeps(self.TABLE, rows, kind), told)
            self.assertEqual(keeps(([], []), rows, kind), 0)

    def test_of_tables_of_programs(self):
        for program in programs(60, "holds"):
            table = makers(program)
            for home, name, rows in table[0]:
                self.assertEqual(holds(table, home, name), rows)
            for row, kind, rows in table[1]:
                self.assertEqual(keeps(table, 1 << row, kind), rows)
            for kind in ["#", ".a", ".b"]:
                everything = set_of(maker for row, other, rows in table[1] if other == kind for maker in members(rows))
                self.assertEqual(keeps(table, (1 << 60) - 1, kind), everything)


class Runs(unittest.TestCase):
    def test_each_record_of_a_run_is_told(self):
        chance = random.Random("records")
        count = 0
        for program in programs(600, "records") + [ALL_WORDS] * 5:
            table, homes = makers(program), shape(program)[3]
            for place, used, made in run(program, inputs_of(chance))[0]:
                row = program[place]
                names = {"def": row[2:3] and row[2], "put": row[2:], "do": row[2:3] + row[4:], "give": row[1:], "if": row[1:],
                         "while": row[1:], "call": row[3:4] and row[3]}.get(row[0])
                if row[0] in ("get", "set"):
                    parts = row[2:] if row[0] == "get" else row[1:]
                    names = [part for part in parts if kind_of(part) == "#"]
                for name, value in zip(names or (), used):
                    if isinstance(value, tuple):
                        self.assertTrue(holds(table, homes[place], name) >> value[0] & 1, (program, place))
                        count += 1
                if row[0] in ("put", "new", "get") and isinstance(made, tuple):
                    self.assertTrue(holds(table, homes[place], row[1]) >> made[0] & 1, (program, place))
                if row[0] == "set" and isinstance(used[0], tuple) and isinstance(made, tuple):
                    self.assertTrue(keeps(table, 1 << used[0][0], kind_of(row[2])) >> made[0] & 1, (program, place))
                    count += 1
        self.assertGreater(count, 1000)


class Unchanged(unittest.TestCase):
    def test_what_was_handed_in_stays(self):
        for program in programs(40, "stays") + [ALL_WORDS]:
            kept = copy.deepcopy(program)
            table = makers(program)
            self.assertEqual(program, kept)
            other = copy.deepcopy(table)
            closed(program, table)
            closed(program, ([], []))
            holds(table, 0, "r")
            keeps(table, 3, ".a")
            self.assertEqual((table, program), (other, kept))

    def test_a_table_is_the_asker_s_own(self):
        for program in programs(40, "own") + [ALL_WORDS]:
            first = makers(program)
            kept = copy.deepcopy(first)
            first[0].clear()
            first[1].append((0, "#", 1))
            self.assertEqual(makers(program), kept)


if __name__ == "__main__":
    unittest.main()
