"""Runs: slicewise.runs."""

import copy
import random
import unittest

from helper import ALL_WORDS, H, NO_FUNCTIONS, Second, inputs_of, programs, rows_of
from slicewise.runs import run


class Told(unittest.TestCase):
    def told(self, text, inputs, doings, end, most=200):
        answer = run(rows_of(text), inputs, most)
        self.assertEqual(answer, (doings, end))
        self.assertEqual(repr(answer), repr((doings, end)))


class EachWord(Told):
    def test_def_and_give(self):
        self.told("def main / give 5", [], [(0, (), None), (1, (5,), 5)], ("done", 5))
        self.told("def main a b / give b", [1, -2], [(0, (1, -2), None), (1, (-2,), -2)], ("done", -2))
        self.told("skip / def main a / skip / give z / skip", [7], [(1, (7,), None), (3, (0,), 0)], ("done", 0))

    def test_put(self):
        self.told("def main a / put x a / put x 3 / put y x / give y", [8],
                  [(0, (8,), None), (1, (8,), 8), (2, (3,), 3), (3, (3,), 3), (4, (3,), 3)], ("done", 3))

    def test_do(self):
        self.told("def main a / do x a minus 3 / do x x times x / give x", [1],
                  [(0, (1,), None), (1, (1, 3), -2), (2, (-2, -2), 4), (3, (4,), 4)], ("done", 4))

    def test_new_get_set(self):
        self.told("def main / new r / set r .a 5 / get x r .a / get y r .b / give x", [],
                  [(0, (), None), (1, (), (1, 0)), (2, ((1, 0), 5), 5), (3, ((1, 0),), 5), (4, ((1, 0),), 0), (5, (5,), 5)],
                  ("done", 5))
        self.told("def main k / new r / set r k r / get x r 4 / get y r .a / give x", [4],
                  [(0, (4,), None), (1, (), (1, 0)), (2, ((1, 0), 4, (1, 0)), (1, 0)), (3, ((1, 0), 4), (1, 0)),
                   (4, ((1, 0),), 0), (5, ((1, 0),), (1, 0))], ("done", (1, 0)))

    def test_call(self):
        self.told("def main a / call x f a 2 / give x / def f n m / do r n plus m / give r", [5],
                  [(0, (5,), None), (1, (5, 2), None), (3, (5, 2), None), (4, (5, 2), 7), (5, (7,), 7), (2, (7,), 7)],
                  ("done", 7))

    def test_fail(self):
        self.told("def main / put x 1 / fail bad / give x", [], [(0, (), None), (1, (1,), 1), (2, (), None)], ("fault", "bad"))

    def test_if(self):
        text = "def main a / if a / put x 1 / else / put x 2 / end / give x"
        self.told(text, [9], [(0, (9,), None), (1, (9,), 1), (2, (1,), 1), (6, (1,), 1)], ("done", 1))
        self.told(text, [0], [(0, (0,), None), (1, (0,), 0), (4, (2,), 2), (6, (2,), 2)], ("done", 2))

    def test_while(self):
        self.told("def main a / while a / do a a minus 1 / end / give a", [2],
                  [(0, (2,), None), (1, (2,), 1), (2, (2, 1), 1), (1, (1,), 1), (2, (1, 1), 0), (1, (0,), 0), (4, (0,), 0)],
                  ("done", 0))


class Begins(Told):
    def test_inputs(self):
        text = "def main a b c / give b"
        for inputs, used in [([], (0, 0, 0)), ([1], (1, 0, 0)), ([1, 2], (1, 2, 0)), ([1, 2, 3], (1, 2, 3)),
                             ([1, 2, 3, 4, 5], (1, 2, 3)), ([H, -H - 1, 2 * H], (-H, H - 1, 0)),
                             ([H - 1, -H, 10 ** 3000], (H - 1, -H, 0))]:
            self.told(text, inputs, [(0, used, None), (1, (used[1],), used[1])], ("done", used[1]))

    def test_main_is_the_first_def(self):
        self.told("skip / def f / give 1 / def main / give 2", [], [(1, (), None), (2, (1,), 1)], ("done", 1))

    def test_without_functions(self):
        for program in NO_FUNCTIONS:
            for inputs in [[], [1, 2]]:
                for most in [0, 1, 200, 400]:
                    self.assertEqual(run(program, inputs, most), ([], ("done", 0)))
            self.assertEqual(run(program, []), ([], ("done", 0)))

    def test_names_of_a_call_are_its_own(self):
        self.told("def main / put x 4 / call y f 1 / call z f 2 / give x / def f a / put y x / put x a / give y", [],
                  [(0, (), None), (1, (4,), 4), (2, (1,), None), (5, (1,), None), (6, (0,), 0), (7, (1,), 1), (8, (0,), 0),
                   (3, (2,), None), (5, (2,), None), (6, (0,), 0), (7, (2,), 2), (8, (0,), 0), (4, (4,), 4)], ("done", 4))

    def test_calls_within_calls(self):
        self.told("def main a / call a f a / give a / def f n / call n g n n / do n n plus 1 / give n / def g p q "
                  "/ do p p times q / give p", [3],
                  [(0, (3,), None), (1, (3,), None), (3, (3,), None), (4, (3, 3), None), (7, (3, 3), None), (8, (3, 3), 9),
                   (9, (9,), 9), (5, (9, 1), 10), (6, (10,), 10), (2, (10,), 10)], ("done", 10))


class Choices(Told):
    def test_a_record_is_yes(self):
        self.told("def main / new r / if r / put x 1 / end / give x", [],
                  [(0, (), None), (1, (), (1, 0)), (2, ((1, 0),), 1), (3, (1,), 1), (5, (1,), 1)], ("done", 1))
        self.told("def main / new r / while r / put r 0 / end / give r", [],
                  [(0, (), None), (1, (), (1, 0)), (2, ((1, 0),), 1), (3, (0,), 0), (2, (0,), 0), (5, (0,), 0)], ("done", 0))

    def test_the_first_record_of_row_nought_is_no_number(self):
        # Row 0 can't be a new, yet counts of 0 must not look like a nought.
        self.told("def main / new r / do x r same 0 / do y r same r / give y", [],
                  [(0, (), None), (1, (), (1, 0)), (2, ((1, 0), 0), 0), (3, ((1, 0), (1, 0)), 1), (4, (1,), 1)], ("done", 1))

    def test_numbers_in_if_and_while(self):
        for number, side in [(0, 0), (1, 1), (-1, 1), (H - 1, 1), (-H, 1)]:
            self.told(f"def main / if {number} / fail yes / else / fail no / end / give 0", [],
                      [(0, (), None), (1, (number,), side), (2 if side else 4, (), None)], ("fault", "yes" if side else "no"))

    def test_without_else_and_without_rows(self):
        self.told("def main a / if a / end / give 1", [0], [(0, (0,), None), (1, (0,), 0), (3, (1,), 1)], ("done", 1))
        self.told("def main a / if a / end / give 1", [4], [(0, (4,), None), (1, (4,), 1), (3, (1,), 1)], ("done", 1))
        for side in [0, 1]:
            self.told("def main a / if a / else / end / give 1", [side],
                      [(0, (side,), None), (1, (side,), side), (4, (1,), 1)], ("done", 1))
            self.told("def main a / if a / put x 7 / else / end / give x", [side],
                      [(0, (side,), None), (1, (side,), side)] + [(2, (7,), 7)] * side + [(5, (7 * side,), 7 * side)],
                      ("done", 7 * side))

    def test_a_while_never_entered_and_one_without_rows(self):
        self.told("def main / while 0 / fail bad / end / give 1", [], [(0, (), None), (1, (0,), 0), (4, (1,), 1)], ("done", 1))
        self.told("def main / while 1 / end / give 1", [], [(0, (), None)] + [(1, (1,), 1)] * 9, ("cut", 0), 10)
        self.told("def main / while 1 / skip / if 0 / end / skip / end / give 1", [],
                  [(0, (), None), (1, (1,), 1), (3, (0,), 0), (1, (1,), 1), (3, (0,), 0)], ("cut", 0), 5)

    def test_blocks_within_blocks(self):
        text = ("def main a b / while a / if b / while b / do b b minus 1 / end / else / if a / put b 1 / end / end "
                "/ do a a minus 1 / end / give b")
        doings, end = run(rows_of(text), [2, 1])
        self.assertEqual([row for row, used, made in doings], [0, 1, 2, 3, 4, 3, 11, 1, 2, 7, 8, 11, 1, 13])
        self.assertEqual(end, ("done", 1))


class Records(Told):
    def test_counts(self):
        doings, end = run(rows_of("def main a / while a / new r / new r / do a a minus 1 / end / give r"), [3])
        self.assertEqual([made for row, used, made in doings if row == 2], [(2, 0), (2, 1), (2, 2)])
        self.assertEqual([made for row, used, made in doings if row == 3], [(3, 0), (3, 1), (3, 2)])
        self.assertEqual(end, ("done", (3, 2)))

    def test_counts_go_on_from_call_to_call(self):
        doings, end = run(rows_of("def main / call x f / call y f / do z x same y / give z / def f / new r / give r"), [])
        self.assertEqual([made for row, used, made in doings if row == 6], [(6, 0), (6, 1)])
        self.assertEqual(end, ("done", 0))

    def test_several_names_share_a_record(self):
        text = "def main / new r / put q r / call s f q / get x r .a / give x / def f p / set p .a 9 / give p"
        doings, end = run(rows_of(text), [])
        self.assertEqual(end, ("done", 9))
        self.assertEqual(doings[4:8], [(6, ((1, 0),), None), (7, ((1, 0), 9), 9), (8, ((1, 0),), (1, 0)), (4, ((1, 0),), 9)])

    def test_each_record_has_cells_of_its_own(self):
        text = "def main / new r / new q / set r .a 1 / set q .a 2 / get x r .a / get y q .a / do z x minus y / give z"
        self.assertEqual(run(rows_of(text), [])[1], ("done", -1))

    def test_keys(self):
        # The value of k is the cell's key, be it a name, a number or a record, which counts as 0.
        begin = "def main k / new r / new q / set r 0 10 / set r 1 11 / set r .k 12 / "
        for key, inputs, used, made in [("k", [1], ((1, 0), 1), 11), ("k", [0], ((1, 0), 0), 10), ("k", [], ((1, 0), 0), 10),
                                        ("k", [7], ((1, 0), 7), 0), ("1", [5], ((1, 0), 1), 11), ("-1", [5], ((1, 0), -1), 0),
                                        ("q", [5], ((1, 0), (2, 0)), 10), (".k", [0], ((1, 0),), 12), (".q", [0], ((1, 0),), 0),
                                        ("z", [5], ((1, 0), 0), 10)]:
            doings, end = run(rows_of(begin + f"get x r {key} / give x"), inputs)
            self.assertEqual(doings[6], (6, used, made), key)
            self.assertEqual(end, ("done", made))

    def test_a_record_as_the_key_of_a_set(self):
        self.told("def main / new r / set r r 5 / get x r 0 / give x", [],
                  [(0, (), None), (1, (), (1, 0)), (2, ((1, 0), (1, 0), 5), 5), (3, ((1, 0), 0), 5), (4, (5,), 5)], ("done", 5))

    def test_where_there_is_no_record(self):
        self.told("def main r / set r .a 5 / get x r .a / set r 3 5 / get y r 3 / set z .a r / give x", [6],
                  [(0, (6,), None), (1, (6, 5), 5), (2, (6,), 0), (3, (6, 3, 5), 5), (4, (6, 3), 0), (5, (0, 6), 6),
                   (6, (0,), 0)], ("done", 0))

    def test_a_get_into_its_own_record(self):
        self.told("def main / new r / set r .a 3 / get r r .a / get r r .a / give r", [],
                  [(0, (), None), (1, (), (1, 0)), (2, ((1, 0), 3), 3), (3, ((1, 0),), 3), (4, (3,), 0), (5, (0,), 0)],
                  ("done", 0))

    def test_a_cell_is_written_anew(self):
        text = "def main / new r / set r .a 3 / set r .a 0 / get x r .a / give x"
        self.assertEqual(run(rows_of(text), [])[1], ("done", 0))


class Faults(Told):
    def test_zero(self):
        for word in ["over", "rest"]:
            for operand, value in [("0", 0), ("b", 0), ("r", (1, 0))]:
                self.told(f"def main a / new r / do x a {word} {operand} / give 5", [8],
                          [(0, (8,), None), (1, (), (1, 0)), (2, (8, value), None)], ("fault", "zero"))

    def test_within_a_call(self):
        self.told("def main / call x f / give x / def f / while 1 / fail off / end / give 0", [],
                  [(0, (), None), (1, (), None), (3, (), None), (4, (1,), 1), (5, (), None)], ("fault", "off"))

    def test_range(self):
        self.told(f"def main a / do x a plus 1 / do y x minus 1 / do z {-H} times -1 / give z", [H - 1],
                  [(0, (H - 1,), None), (1, (H - 1, 1), -H), (2, (-H, 1), H - 1), (3, (-H, -1), -H), (4, (-H,), -H)],
                  ("done", -H))


class Cut(Told):
    TEXTS = ["def main a / put x a / do y x over a / give y", "def main a / call x f a / give x / def f n / fail bad / give 0",
             "def main a / if a / end / while a / put a 0 / end / give a"]

    def test_each_most(self):
        for text in self.TEXTS:
            for inputs in [[0], [1]]:
                doings, end = run(rows_of(text), inputs)
                self.assertNotEqual(end, ("cut", 0))
                for most in range(len(doings) + 3):
                    if most < len(doings):
                        self.told(text, inputs, doings[:most], ("cut", 0), most)
                    else:
                        self.told(text, inputs, doings, end, most)

    def test_most_nought(self):
        self.told("def main / give 1", [], [], ("cut", 0), 0)
        self.told("def main / fail bad / give 1", [], [], ("cut", 0), 0)

    def test_a_fault_that_would_be_one_too_many(self):
        self.told("def main / fail bad / give 1", [], [(0, (), None)], ("cut", 0), 1)
        self.told("def main / fail bad / give 1", [], [(0, (), None), (1, (), None)], ("fault", "bad"), 2)
        self.told("def main / do x 1 over 0 / give 1", [], [(0, (), None)], ("cut", 0), 1)
        self.told("def main / do x 1 over 0 / give 1", [], [(0, (), None), (1, (1, 0), None)], ("fault", "zero"), 2)

    def test_skips_and_ends_count_nothing(self):
        self.told("def main / if 1 / skip / skip / else / skip / end / skip / give 1", [],
                  [(0, (), None), (1, (1,), 1), (8, (1,), 1)], ("done", 1), 3)

    def test_most_left_out(self):
        program = rows_of("def main / while 1 / end / give 0")
        doings, end = run(program, [])
        self.assertEqual((len(doings), end), (200, ("cut", 0)))
        self.assertEqual(run(program, [], 200), (doings, end))
        self.assertEqual(len(run(program, [], 400)[0]), 400)
        # 200 doings just do; 201 don't.
        for inputs, end in [([99], ("cut", 0)), ([98], ("done", 0))]:
            self.assertEqual(run(rows_of("def main a / while a / do a a minus 1 / end / put x 0 / give a"), inputs)[1], end)


class Many(unittest.TestCase):
    def test_a_second_reader_tells_the_same(self):
        chance = random.Random("runs")
        ends = set()
        for program in programs(1200, "runs") + [ALL_WORDS] * 10 + NO_FUNCTIONS:
            inputs = inputs_of(chance)
            most = chance.choice([0, 1, 5, 20, 60, 200, 400])
            told = run(program, inputs, most)
            self.assertEqual(told, Second(program, most).told(inputs), (program, inputs, most))
            ends.add(told[1][0])
        self.assertEqual(ends, {"done", "fault", "cut"})

    def test_all_words_are_done(self):
        done = set()
        for inputs in [[2, 3], [1, 0], [0, 1], [0, 0]]:
            done |= {ALL_WORDS[row][0] for row, used, made in run(ALL_WORDS, inputs)[0]}
        self.assertEqual(done, {"def", "give", "put", "do", "new", "get", "set", "call", "fail", "if", "while"})

    def test_kinds(self):
        for program in programs(50, "kinds"):
            told = run(program, [1, 2])
            self.assertEqual([type(part) for part in told], [list, tuple][:2])
            for doing in told[0]:
                self.assertEqual([type(part) for part in doing[:2]], [int, tuple])
                self.assertEqual((type(doing), len(doing)), (tuple, 3))


class Unchanged(unittest.TestCase):
    def test_what_was_handed_in_stays(self):
        for program in programs(60, "stays") + [ALL_WORDS]:
            inputs = [3, H, -1]
            kept = copy.deepcopy(program)
            run(program, inputs)
            self.assertEqual(program, kept)
            self.assertEqual(inputs, [3, H, -1])

    def test_two_runs_are_alike(self):
        for program in programs(60, "alike") + [ALL_WORDS]:
            first = run(program, [2, 1])
            kept = copy.deepcopy(first)
            first[0].reverse()
            first[0].append("more")
            self.assertEqual(run(program, [2, 1]), kept)

    def test_what_is_done_behind_the_call(self):
        program, inputs = list(ALL_WORDS), [2, 1]
        told = run(program, inputs)
        kept = copy.deepcopy(told)
        program.clear()
        inputs.clear()
        self.assertEqual(told, kept)


if __name__ == "__main__":
    unittest.main()
