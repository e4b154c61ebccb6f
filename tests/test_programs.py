"""How programs are made, what is refused, and the shape of a program: slicewise.programs."""

import copy
import itertools
import unittest

from slicewise.errors import Done, NoBlock, NoCall, NoFault, NoPlace, NoRow, NoText, SliceError, TooGreat, Unlike
from slicewise.programs import program_of, shape

H = 10 ** 30
REFUSALS = [TooGreat, NoRow, NoBlock, NoCall, NoText, NoPlace, Unlike, NoFault, Done]
SKIP = ("skip",)
END = ("end",)
ELSE = ("else",)
MAIN = ("def", "main", ())
GIVE = ("give", 0)
PUT = ("put", "x", 1)

ONE = [
    SKIP, ("def", "main", ("a", "b")), ("put", "x", "a"), ("do", "y", "x", "over", "b"), ("new", "r"),
    ("set", "r", ".next", "y"), ("get", "z", "r", ".next"), ("while", "z"), ("do", "z", "z", "minus", 1),
    ("if", "z"), SKIP, ELSE, ("fail", "bad"), END, END, ("give", "z"), SKIP,
]
THREE = [
    ("def", "main", ("n",)), ("call", "x", "twice", ("n",)), ("call", "y", "both", (1, "x")), ("give", "y"),
    ("def", "twice", ("n",)), ("if", "n"), ("call", "y", "both", ("n", "n")), END, ("give", "y"),
    SKIP, SKIP,
    ("def", "both", ("a", "b")), ("do", "c", "a", "plus", "b"), ("give", "c"),
]
NESTED = [
    MAIN, ("while", 1), ("if", "a"), ("if", "b"), PUT, ELSE, ("while", "c"), END, PUT, END, ELSE, ("if", 0), END,
    PUT, END, END, ("while", 0), PUT, END, GIVE, ("def", "f", ()), PUT, ("give", "x"),
]
PROGRAMS = [[], [SKIP], [SKIP] * 60, [MAIN, GIVE], [MAIN] + [SKIP] * 58 + [GIVE], ONE, THREE, NESTED]


class Refusing(unittest.TestCase):
    def refused(self, rows, kind, place=None):
        before = copy.deepcopy(rows)
        with self.assertRaises(SliceError) as caught:
            program_of(rows)
        error = caught.exception
        self.assertEqual([other for other in REFUSALS if isinstance(error, other)], [kind], rows)
        self.assertIsInstance(error, ValueError)
        if place is not None:
            self.assertEqual(error.place, place, rows)
        self.assertEqual(rows, before)

    def inside(self, rows, kind, place):
        self.refused([MAIN] + rows + [GIVE], kind, place)


class Made(unittest.TestCase):
    def test_programs_are_let_by(self):
        for rows in PROGRAMS:
            program = program_of(rows)
            self.assertEqual(program, rows)
            self.assertIs(type(program), list)

    def test_a_list_of_its_own(self):
        for rows in PROGRAMS:
            handed = list(rows)
            program = program_of(handed)
            self.assertIsNot(program, handed)
            self.assertEqual(handed, rows)
            handed.append(MAIN)
            handed[0] = END
            self.assertEqual(program, rows)

    def test_changing_a_program_changes_no_other(self):
        rows = list(THREE)
        first = program_of(rows)
        first.clear()
        self.assertEqual(rows, THREE)
        self.assertEqual(program_of(rows), THREE)
        again = program_of(program_of(rows))
        self.assertEqual(again, THREE)

    def test_a_refusal_keeps_nothing(self):
        rows = [MAIN, END, GIVE]
        with self.assertRaises(NoBlock) as caught:
            program_of(rows)
        rows[1] = SKIP
        self.assertEqual(program_of(rows), [MAIN, SKIP, GIVE])
        self.assertEqual(caught.exception.place, 1)

    def test_names_that_are_words(self):
        rows = [("def", "def", ("give", "plus")), ("call", "if", "end", ("give",)), ("while", "while"), END,
                ("give", "else"), ("def", "end", ("skip",)), ("give", "skip")]
        self.assertEqual(program_of(rows), rows)


class Great(Refusing):
    def test_sixty_and_sixty_one(self):
        self.assertEqual(len(program_of([SKIP] * 60)), 60)
        self.refused([SKIP] * 61, TooGreat)
        self.refused([SKIP] * 1000, TooGreat)
        self.assertEqual(len(program_of([MAIN] + [PUT] * 58 + [GIVE])), 60)
        self.refused([MAIN] + [PUT] * 59 + [GIVE], TooGreat)

    def test_ahead_of_the_other_refusals(self):
        self.refused([("nothing",)] * 61, TooGreat)
        self.refused([GIVE] * 61, TooGreat)
        self.refused([MAIN, ("call", "x", "main", ())] + [PUT] * 58 + [GIVE], TooGreat)

    def test_deep_blocks(self):
        rows = [MAIN] + [("if", "x")] * 29 + [END] * 29 + [GIVE]
        self.assertEqual(program_of(rows), rows)
        self.refused([MAIN] + [("while", "x")] * 30 + [END] * 29, NoBlock, 60)


class NotRows(Refusing):
    def test_one_that_is_none(self):
        for row in [("nothing",), ("Skip",), ("skip", 0), ("put", "x"), ("put", "x", H), ("put", "x", -H - 1),
                    ("put", "x", True), ("put", "abcdefghi", 1), ("def", "f", ("a", "a")),
                    ("def", "f", ("a", "b", "c", "d", "e")), ("call", "x", "f", (1, 2, 3, 4, 5)),
                    ("get", "x", "r", "."), ("do", "x", 1, "more", 2), ("",)]:
            self.refused([row], NoRow, 0)
            self.refused([SKIP, SKIP, row, SKIP], NoRow, 2)
            self.inside([PUT, PUT, row], NoRow, 3)
            self.refused([SKIP] * 59 + [row], NoRow, 59)

    def test_the_first_of_several(self):
        self.refused([SKIP, ("nothing",), ("put",), ("x",)], NoRow, 1)

    def test_ahead_of_blocks_and_calls(self):
        self.refused([GIVE, END, ("nothing",)], NoRow, 2)
        self.refused([MAIN, ("put", "x", H)], NoRow, 1)
        self.refused([MAIN, ("call", "x", "none", ()), GIVE, ("nothing",)], NoRow, 3)


class Blocks(Refusing):
    def test_outside_of_functions(self):
        for row in [GIVE, PUT, ("do", "x", 1, "plus", 2), ("new", "x"), ("get", "x", "r", 1), ("set", "r", 1, 1),
                    ("call", "x", "f", ()), ("fail", "bad"), ("if", 1), ELSE, ("while", 1), END]:
            self.refused([row], NoBlock, 0)
            self.refused([SKIP, row, SKIP], NoBlock, 1)
            self.refused([MAIN, GIVE, row], NoBlock, 2)
            self.refused([MAIN, GIVE, SKIP, row, ("def", "f", ()), GIVE], NoBlock, 3)

    def test_def_within_a_function(self):
        self.inside([("def", "f", ())], NoBlock, 1)
        self.inside([("if", 1), ("def", "f", ()), GIVE, END], NoBlock, 2)

    def test_give_within_a_block(self):
        self.inside([("if", 1), GIVE, END], NoBlock, 2)
        self.inside([("while", 1), GIVE, END], NoBlock, 2)
        self.inside([("if", 1), ELSE, GIVE, END], NoBlock, 3)

    def test_end_without_a_block(self):
        self.inside([END], NoBlock, 1)
        self.inside([("if", 1), END, END], NoBlock, 3)

    def test_else_where_it_may_not_stand(self):
        self.inside([ELSE], NoBlock, 1)
        self.inside([("while", 1), ELSE, END], NoBlock, 2)
        self.inside([("if", 1), ELSE, ELSE, END], NoBlock, 3)
        self.inside([("if", 1), ("while", 1), ELSE, END, END], NoBlock, 3)
        self.inside([("if", 1), ELSE, ("if", 1), END, ELSE, END], NoBlock, 5)
        self.inside([("if", 1), END, ELSE], NoBlock, 3)

    def test_open_at_the_end(self):
        self.refused([MAIN], NoBlock, 1)
        self.refused([SKIP, MAIN, PUT], NoBlock, 3)
        self.refused([MAIN, ("if", 1)], NoBlock, 2)
        self.refused([MAIN, ("while", 1), END], NoBlock, 3)
        self.refused([MAIN, ("if", 1), ELSE], NoBlock, 3)
        self.refused([MAIN, GIVE, ("def", "f", ())], NoBlock, 3)
        self.refused([MAIN] + [PUT] * 59, NoBlock, 60)

    def test_the_first_from_the_top(self):
        self.refused([MAIN, END, END, GIVE, GIVE], NoBlock, 1)
        self.refused([MAIN, PUT, ELSE, END, ("if", 1)], NoBlock, 2)
        self.refused([MAIN, GIVE, GIVE, MAIN], NoBlock, 2)

    def test_ahead_of_calls(self):
        self.refused([MAIN, ("call", "x", "none", ()), GIVE, END], NoBlock, 3)
        self.refused([MAIN, ("call", "x", "main", ())], NoBlock, 2)
        self.refused([MAIN, GIVE, MAIN, GIVE, MAIN], NoBlock, 5)


class Calls(Refusing):
    def test_no_such_function(self):
        self.inside([("call", "x", "none", ())], NoCall, 1)
        self.inside([PUT, ("call", "main", "x", ())], NoCall, 2)

    def test_its_own_function_and_one_further_up(self):
        self.inside([("call", "x", "main", ())], NoCall, 1)
        self.refused([MAIN, GIVE, ("def", "f", ()), ("call", "x", "main", ()), GIVE], NoCall, 3)
        self.refused([("def", "f", ()), GIVE, MAIN, PUT, ("call", "x", "f", ()), GIVE], NoCall, 4)

    def test_as_many_operands_as_parameters(self):
        names = ("a", "b", "c", "d")
        for many in range(5):
            for given in range(5):
                rows = [MAIN, ("call", "x", "f", (7,) * given), GIVE, ("def", "f", names[:many]), GIVE]
                if many == given:
                    self.assertEqual(program_of(rows), rows)
                else:
                    self.refused(rows, NoCall, 1)

    def test_a_name_of_its_own(self):
        self.refused([MAIN, GIVE, MAIN, GIVE], NoCall, 2)
        self.refused([MAIN, GIVE, ("def", "f", ()), GIVE, SKIP, ("def", "main", ("a",)), GIVE], NoCall, 5)
        self.refused([MAIN, GIVE, MAIN, GIVE, MAIN, GIVE], NoCall, 2)

    def test_held_against_the_first_def_with_the_name(self):
        two = [("def", "f", ("a",)), GIVE, ("def", "f", ()), GIVE]
        self.refused([MAIN, ("call", "x", "f", (1,)), GIVE] + two, NoCall, 5)
        self.refused([MAIN, ("call", "x", "f", ()), GIVE] + two, NoCall, 1)
        between = [MAIN, GIVE, ("def", "f", ()), GIVE, ("def", "g", ()), ("call", "x", "f", ()), GIVE, ("def", "f", ()), GIVE]
        self.refused(between, NoCall, 5)

    def test_the_first_of_a_def_and_a_call(self):
        self.refused([MAIN, GIVE, MAIN, ("call", "x", "none", ()), GIVE], NoCall, 2)
        self.refused([MAIN, ("call", "x", "none", ()), GIVE, MAIN, GIVE], NoCall, 1)

    def test_within_blocks(self):
        self.inside([("if", 1), ("while", 1), ("call", "x", "main", ()), END, END], NoCall, 3)

    def test_all_small_layouts(self):
        calls = [None, ("call", "x", "f", ()), ("call", "x", "f", (1,)), ("call", "x", "g", ()), ("call", "x", "h", ())]
        for count in range(4):
            for picks in itertools.product(["f", "g"], [(), ("p",)], calls, repeat=count):
                rows = []
                for at in range(0, len(picks), 3):
                    rows += [("def", picks[at], picks[at + 1]), picks[at + 2] or SKIP, GIVE]
                place = first_bad_call(rows)
                if place is None:
                    self.assertEqual(program_of(rows), rows)
                else:
                    self.refused(rows, NoCall, place)


def first_bad_call(rows):
    for place, row in enumerate(rows):
        if row[0] == "def" and any(other[:2] == row[:2] for other in rows[:place]):
            return place
        if row[0] == "call":
            defs = [at for at, other in enumerate(rows) if other[:2] == ("def", row[2])]
            if not defs or min(defs) < place or len(rows[min(defs)][2]) != len(row[3]):
                return place
    return None


class Broken(Exception):
    pass


class Reader:
    """Reads blocks and functions from the top down, another way than the program does."""

    def __init__(self, rows):
        self.words = [row[0] for row in rows]
        self.told = tuple([None] * len(rows) for number in range(4))

    def program(self):
        at = 0
        while at < len(self.words):
            if self.words[at] == "def":
                self.told[3][at] = at
                at = self.block(at, at, at + 1, ["give"])
            elif self.words[at] != "skip":
                raise Broken(at)
            at += 1
        return self.told

    def block(self, home, head, at, closers):
        while True:
            if at == len(self.words):
                raise Broken(at)
            word = self.words[at]
            self.told[0][at] = head
            self.told[3][at] = home
            if word in closers:
                if word == "else":
                    self.told[2][head] = at
                    return self.block(home, head, at + 1, ["end"])
                self.told[1][head] = at
                return at
            if word in ["def", "give", "else", "end"]:
                raise Broken(at)
            if word in ["if", "while"]:
                at = self.block(home, at, at + 1, ["else", "end"] if word == "if" else ["end"])
            at += 1


class AllSmall(unittest.TestCase):
    def compared(self, rows):
        reader = Reader(rows)
        try:
            told = reader.program()
        except Broken as broken:
            with self.assertRaises(NoBlock) as caught:
                program_of(rows)
            self.assertEqual(caught.exception.place, broken.args[0], rows)
            return 0
        self.assertEqual(shape(program_of(rows)), told, rows)
        return 1

    def all_of(self, length, first, choices, last):
        count = 0
        for middle in itertools.product(choices, repeat=length):
            rows = first + list(middle) + last
            named = [("def", "f" + "abcdefghij"[at], ()) if row[0] == "def" else row for at, row in enumerate(rows)]
            count += self.compared(named)
        return count

    def test_all_lists_of_up_to_five_rows(self):
        choices = [MAIN, GIVE, ("if", 1), ELSE, ("while", 1), END, SKIP]
        for length in range(6):
            self.assertGreater(self.all_of(length, [], choices, []), 0)

    def test_all_functions_with_up_to_seven_rows_inside(self):
        choices = [("if", "x"), ELSE, ("while", "x"), END, PUT]
        for length in range(8):
            self.assertGreater(self.all_of(length, [SKIP, MAIN], choices, [GIVE]), 0)


class Shapes(unittest.TestCase):
    def test_no_rows_and_no_functions(self):
        self.assertEqual(shape([]), ([], [], [], []))
        self.assertEqual(shape([SKIP, SKIP]), ([None] * 2,) * 4)

    def test_smallest_function(self):
        self.assertEqual(shape([MAIN, GIVE]), ([None, 0], [1, None], [None, None], [0, 0]))

    def test_one_function(self):
        heads = [None, None, 1, 1, 1, 1, 1, 1, 7, 7, 9, 9, 9, 9, 7, 1, None]
        ends = [None] * 17
        ends[1], ends[7], ends[9] = 15, 14, 13
        elses = [None] * 17
        elses[9] = 11
        homes = [None] + [1] * 15 + [None]
        self.assertEqual(shape(ONE), (heads, ends, elses, homes))

    def test_three_functions(self):
        heads = [None, 0, 0, 0, None, 4, 5, 5, 4, None, None, None, 11, 11]
        ends = [3, None, None, None, 8, 7, None, None, None, None, None, 13, None, None]
        homes = [0] * 4 + [4] * 5 + [None] * 2 + [11] * 3
        self.assertEqual(shape(THREE), (heads, ends, [None] * 14, homes))

    def test_blocks_within_blocks(self):
        heads = [None, 0, 1, 2, 3, 3, 3, 6, 3, 3, 2, 2, 11, 2, 2, 1, 0, 16, 16, 0, None, 20, 20]
        ends = [None] * 23
        for opener, closer in [(0, 19), (1, 15), (2, 14), (3, 9), (6, 7), (11, 12), (16, 18), (20, 22)]:
            ends[opener] = closer
        elses = [None] * 23
        elses[3], elses[2] = 5, 10
        self.assertEqual(shape(NESTED), (heads, ends, elses, [0] * 20 + [20] * 3))

    def test_kinds(self):
        for rows in PROGRAMS:
            told = shape(program_of(rows))
            self.assertIs(type(told), tuple)
            self.assertEqual([type(part) for part in told], [list] * 4)
            self.assertEqual([len(part) for part in told], [len(rows)] * 4)

    def test_lists_are_the_asker_s_own(self):
        for rows in PROGRAMS:
            program = program_of(rows)
            first = shape(program)
            kept = copy.deepcopy(first)
            self.assertEqual(len({id(part) for part in first}), 4)
            for part in first:
                part.append("more")
                part[0] = "other"
            self.assertEqual(shape(program), kept)
            self.assertEqual(program, rows)

    def test_a_program_changed_behind_the_call(self):
        program = program_of(THREE)
        told = shape(program)
        kept = copy.deepcopy(told)
        program.clear()
        self.assertEqual(told, kept)
        self.assertEqual(shape(program), ([], [], [], []))


if __name__ == "__main__":
    unittest.main()
