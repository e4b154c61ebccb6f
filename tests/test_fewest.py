"""The fewest parts, rows and inputs: slicewise.fewest."""

import copy
import random
import unittest

from helper import ALL_WORDS, H, NO_FUNCTIONS, inputs_of, leaning, members, programs, rows_of, set_of
from slicewise.errors import NoFault, SliceError
from slicewise.fewest import fewest, fewest_inputs, fewest_rows
from slicewise.only import only
from slicewise.runs import run


def told_fewest(parts, ending, wanted):
    """The document's words: rounds over what is left, from the last to the first."""
    left = list(enumerate(parts))
    tries = []
    if not wanted(ending([part for number, part in left])):
        return None
    again = True
    while again:
        again = False
        for number, part in left[::-1]:
            others = [pair for pair in left if pair[0] != number]
            came = ending([other for at, other in others])
            tries.append((number, came, wanted(came)))
            if wanted(came):
                left, again = others, True
    return [part for number, part in left], tries


class Fewest(unittest.TestCase):
    def test_one_round_and_another(self):
        # Wanted is a sum of at least 5: the last is tried first.
        told = fewest([1, 2, 3, 4], sum, lambda came: came >= 5)
        self.assertEqual(told, ([2, 3], [(3, 6, True), (2, 3, False), (1, 4, False), (0, 5, True), (2, 2, False), (1, 3, False)]))

    def test_a_third_round(self):
        # c may go only when b is gone, b only when a is gone.
        def ending(some):
            text = "".join(some)
            return text in ["abcd", "bcd", "cd", "d"]
        told = fewest(["a", "b", "c", "d"], ending, lambda came: came)
        self.assertEqual(told[0], ["d"])
        self.assertEqual([number for number, came, out in told[1]], [3, 2, 1, 0, 3, 2, 1, 3, 2, 3])
        self.assertEqual([number for number, came, out in told[1] if out], [0, 1, 2])

    def test_all_left_out(self):
        self.assertEqual(fewest([7, 8, 9], len, lambda came: True), ([], [(2, 2, True), (1, 1, True), (0, 0, True)]))

    def test_none_left_out(self):
        self.assertEqual(fewest([7, 8, 9], len, lambda came: came == 3), ([7, 8, 9], [(2, 2, False), (1, 2, False), (0, 2, False)]))

    def test_no_parts_and_one(self):
        self.assertEqual(fewest([], len, lambda came: True), ([], []))
        self.assertEqual(fewest([5], len, lambda came: True), ([], [(0, 0, True)]))
        self.assertEqual(fewest([5], len, lambda came: came == 1), ([5], [(0, 0, False)]))

    def test_what_is_not_wanted_of_all_parts(self):
        for parts in [[], [1], [1, 2, 3]]:
            with self.assertRaises(NoFault) as caught:
                fewest(parts, len, lambda came: False)
            self.assertIsInstance(caught.exception, SliceError)
        with self.assertRaises(NoFault):
            fewest([1, 2, 3], len, lambda came: came < 3)

    def test_parts_that_are_alike(self):
        told = fewest(["x", "x", "x"], len, lambda came: came >= 1)
        self.assertEqual(told, (["x"], [(2, 2, True), (1, 1, True), (0, 0, False), (0, 0, False)]))

    def test_order(self):
        told = fewest(list("edcba"), list, lambda came: "d" in came and "a" in came and "e" in came)
        self.assertEqual(told[0], ["e", "d", "a"])
        self.assertEqual(told[1][-1], (0, ["d", "a"], False))

    def test_the_last_tries_are_all_false(self):
        chance = random.Random("fewest")
        for turn in range(300):
            size = chance.randint(0, 6)
            parts = [chance.randint(0, 3) for part in range(size)]
            liked = {tuple(part for part in parts if chance.random() < 0.7) for some in range(12)} | {tuple(parts)}
            told = fewest(parts, tuple, lambda came: came in liked)
            self.assertEqual(told, told_fewest(parts, tuple, lambda came: came in liked))
            left, tries = told
            self.assertIn(tuple(left), liked)
            last = tries[len(tries) - len(left):]
            self.assertEqual([out for number, came, out in last], [False] * len(left))
            self.assertEqual([parts[number] for number, came, out in last[::-1]], left)
            for at in range(len(left)):
                self.assertNotIn(tuple(left[:at] + left[at + 1:]), liked)

    def test_lists_that_functions_get_are_their_own(self):
        def ending(some):
            came = list(some)
            some.clear()
            some.append("more")
            return came

        def wanted(came):
            right = "b" in came
            came.reverse()
            came.append("z")
            return right
        parts = ["a", "b", "c"]
        told = fewest(parts, ending, wanted)
        self.assertEqual(told, (["b"], [(2, ["a", "b"], True), (1, ["a"], False), (0, ["b"], True), (1, [], False)]))
        self.assertEqual(parts, ["a", "b", "c"])

    def test_what_is_told_may_be_the_list_that_was_handed(self):
        told = fewest([1, 2], lambda some: some, lambda came: 2 in came)
        self.assertEqual(told, ([2], [(1, [1], False), (0, [2], True), (1, [], False)]))

    def test_lists_within_lists(self):
        parts = [[1], [2], ([3], {"k": [4]})]

        def ending(some):
            for part in some:
                if isinstance(part, list):
                    part.append(9)
            return [part for part in some]
        told = fewest(parts, ending, lambda came: len(came) >= 2)
        self.assertEqual(parts, [[1], [2], ([3], {"k": [4]})])
        self.assertEqual(told[0], [[1], [2]])
        self.assertEqual(told[1][0], (2, [[1, 9], [2, 9]], True))
        parts[0].append(7)
        self.assertEqual(told[0], [[1], [2]])

    def test_lists_within_tuples_and_dicts(self):
        parts = [("a", [1]), {"k": [2]}, [({"k": [3]},)]]
        kept = copy.deepcopy(parts)

        def change(some):
            for part in some:
                inner = part[1] if isinstance(part, tuple) else part["k"] if isinstance(part, dict) else part[0][0]["k"]
                inner.append(9)

        def ending(some):
            came = copy.deepcopy(some)
            change(some)
            return came

        def wanted(came):
            change(came)
            return True
        told = fewest(parts, ending, wanted)
        self.assertEqual(told, ([], [(2, kept[:2], True), (1, kept[:1], True), (0, [], True)]))
        told = fewest(parts, ending, lambda came: len(came) == 3)
        self.assertEqual(told[0], kept)
        change(parts)
        self.assertEqual(told[0], kept)

    def test_one_list_that_is_told_again_and_again(self):
        same = []

        def ending(some):
            same[:] = some
            return same
        self.assertEqual(fewest([1, 2], ending, lambda came: 1 in came),
                         ([1], [(1, [1], True), (0, [], False), (0, [], False)]))

    def test_the_parts_changed_while_it_runs(self):
        parts = [1, 2, 3]

        def ending(some):
            parts.clear()
            return sum(some)
        self.assertEqual(fewest(parts, ending, lambda came: came >= 3)[0], [1, 2])

    def test_truths(self):
        told = fewest([1, 2], len, lambda came: came)
        self.assertIs(told[1][0][2], True)
        self.assertIs(told[1][-1][2], False)
        self.assertEqual([type(part) for part in told], [list, list])
        self.assertIs(type(told[1][0]), tuple)


class Rows(unittest.TestCase):
    TEXT = ("def main a b / put x a / if b / put y 1 / do x x minus 1 / else / put z 2 / end / while 0 / end / do w 5 over x "
            "/ give w")

    def test_some(self):
        program = rows_of(self.TEXT)
        rows, tries = fewest_rows(program, [1, 1], "zero")
        # Row 10 alone would do, but no row by itself can be left out any more.
        self.assertEqual(members(rows), [1, 2, 4, 10])
        fault, last = ("fault", "zero"), [(10, ("done", 0), False), (4, ("done", 5), False), (2, ("done", 5), False),
                                          (1, ("done", -5), False)]
        self.assertEqual(tries, [last[0], (8, fault, True), (6, fault, True), last[1], (3, fault, True)] + last[2:] + last)

    def test_tries(self):
        program = rows_of("def main a / put x a / put y 2 / if x / fail bad / end / give y")
        fault, done = ("fault", "bad"), ("done", 2)
        self.assertEqual(fewest_rows(program, [3], "bad"),
                         (set_of([1, 3, 4]), [(4, done, False), (3, done, False), (2, fault, True), (1, ("done", 0), False),
                                              (4, ("done", 0), False), (3, ("done", 0), False), (1, ("done", 0), False)]))

    def test_calls(self):
        program = rows_of("def main / call x f / call y f / give 0 / def f / put z 1 / fail bad / give 0 / def g / give 0")
        rows, tries = fewest_rows(program, [], "bad")
        self.assertEqual(members(rows), [1, 6])
        self.assertEqual([number for number, came, out in tries], [6, 5, 2, 1, 6, 1])

    def test_no_fault(self):
        program = rows_of(self.TEXT)
        for inputs, word, most in [([1, 1], "bad", 200), ([2, 1], "zero", 200), ([1, 1], "zero", 3), ([1, 1], "done", 200),
                                   ([1, 1], "zero", 0)]:
            with self.assertRaises(NoFault):
                fewest_rows(program, inputs, word, most)
        for program in NO_FUNCTIONS:
            with self.assertRaises(NoFault):
                fewest_rows(program, [], "zero")

    def test_most(self):
        program = rows_of("def main / put x 1 / put y 2 / fail bad / give 0")
        self.assertEqual(fewest_rows(program, [], "bad", 4)[0], 1 << 3)
        with self.assertRaises(NoFault):
            fewest_rows(program, [], "bad", 3)
        loop = rows_of("def main a / while a / do a a minus 1 / end / fail bad / give 0")
        with self.assertRaises(NoFault):
            fewest_rows(loop, [99], "bad")
        self.assertEqual(fewest_rows(loop, [98], "bad")[0], 1 << 4)

    def test_of_another_fault(self):
        # Without row 1 the run ends in zero, too, but it is bad that is wanted.
        program = rows_of("def main / put x 1 / do y 1 over x / fail bad / give 0")
        rows, tries = fewest_rows(program, [], "bad")
        self.assertEqual(members(rows), [3])
        self.assertEqual(tries[2], (1, ("fault", "bad"), True))
        program = rows_of("def main / put x 1 / do y 1 over x / if y / fail bad / end / give 0")
        rows, tries = fewest_rows(program, [], "bad")
        self.assertEqual(members(rows), [1, 2, 3, 4])
        self.assertEqual(tries[-1], (1, ("fault", "zero"), False))

    def test_many(self):
        chance = random.Random("fewest rows")
        seen = 0
        for program in programs(700, "fewest rows"):
            inputs, most = inputs_of(chance), chance.choice([20, 60])
            end = run(program, inputs, most)[1]
            if end[0] != "fault":
                with self.assertRaises(NoFault):
                    fewest_rows(program, inputs, "bad", most)
                continue
            seen += 1
            frame = set_of(place for place, row in enumerate(program) if row[0] in ("def", "give"))
            parts = [row for row in leaning(program) if not frame >> row & 1]
            wanted = told_fewest(parts, lambda some: run(only(program, set_of(some) | frame), inputs, most)[1],
                                 lambda came: came == end)
            rows, tries = fewest_rows(program, inputs, end[1], most)
            self.assertEqual(rows, set_of(wanted[0]))
            self.assertEqual(tries, [(parts[number], came, out) for number, came, out in wanted[1]])
            self.assertEqual(run(only(program, rows | frame), inputs, most)[1], end)
            for row in members(rows):
                self.assertNotEqual(run(only(program, rows & ~(1 << row) | frame), inputs, most)[1], end)
        self.assertGreater(seen, 40)


class Inputs(unittest.TestCase):
    PROGRAM = rows_of("def main a b c / do x a plus c / if x / fail bad / end / give 0")

    def test_some(self):
        fault, done = ("fault", "bad"), ("done", 0)
        self.assertEqual(fewest_inputs(self.PROGRAM, [1, 2, 3], "bad"),
                         ([1, 0, 0], [(2, fault, True), (1, fault, True), (0, done, False), (0, done, False)]))
        self.assertEqual(fewest_inputs(self.PROGRAM, [0, 2, 3], "bad"),
                         ([0, 0, 3], [(2, done, False), (1, fault, True), (2, done, False)]))

    def test_longer_and_shorter_inputs(self):
        self.assertEqual(fewest_inputs(self.PROGRAM, [1, 0, 0, 4, 0], "bad")[0], [1, 0, 0, 0, 0])
        self.assertEqual([number for number, came, out in fewest_inputs(self.PROGRAM, [1, 0, 0, 4, 0], "bad")[1]], [3, 0, 0])
        self.assertEqual(fewest_inputs(self.PROGRAM, [1], "bad")[0], [1])

    def test_without_a_number_other_than_nought(self):
        program = rows_of("def main a / fail bad / give 0")
        self.assertEqual(fewest_inputs(program, [], "bad"), ([], []))
        self.assertEqual(fewest_inputs(program, [0, 0], "bad"), ([0, 0], []))
        self.assertEqual(fewest_inputs(program, [5], "bad"), ([0], [(0, ("fault", "bad"), True)]))

    def test_inputs_beyond_the_range_stay_as_they_are(self):
        self.assertEqual(fewest_inputs(self.PROGRAM, [H, 5, 0], "bad")[0], [H, 0, 0])
        self.assertEqual(fewest_inputs(self.PROGRAM, [2 * H, 5, 4], "bad"),
                         ([0, 0, 4], [(2, ("done", 0), False), (1, ("fault", "bad"), True), (0, ("fault", "bad"), True),
                                      (2, ("done", 0), False)]))

    def test_no_fault(self):
        for inputs, word, most in [([0, 1], "bad", 200), ([], "bad", 200), ([1], "zero", 200), ([1], "bad", 3)]:
            with self.assertRaises(NoFault):
                fewest_inputs(self.PROGRAM, inputs, word, most)
        self.assertEqual(fewest_inputs(self.PROGRAM, [1], "bad", 4)[0], [1])
        for program in NO_FUNCTIONS:
            with self.assertRaises(NoFault):
                fewest_inputs(program, [1], "zero")

    def test_most_left_out(self):
        loop = rows_of("def main a b / while a / do a a minus 1 / end / fail bad / give 0")
        with self.assertRaises(NoFault):
            fewest_inputs(loop, [99, 1], "bad")
        self.assertEqual(fewest_inputs(loop, [98, 1], "bad")[0], [0, 0])

    def test_many(self):
        chance = random.Random("fewest inputs")
        seen = 0
        for program in programs(700, "fewest inputs"):
            inputs, most = inputs_of(chance), chance.choice([20, 60, 200])
            end = run(program, inputs, most)[1]
            if end[0] != "fault":
                continue
            seen += 1
            places = [place for place, number in enumerate(inputs) if number != 0]

            def noughts(some):
                return [number if place in some else 0 for place, number in enumerate(inputs)]
            wanted = told_fewest(places, lambda some: run(program, noughts(some), most)[1], lambda came: came == end)
            left, tries = fewest_inputs(program, inputs, end[1], most)
            self.assertEqual(left, noughts(wanted[0]))
            self.assertEqual(tries, [(places[number], came, out) for number, came, out in wanted[1]])
            self.assertEqual(run(program, left, most)[1], end)
        self.assertGreater(seen, 40)


class Unchanged(unittest.TestCase):
    def test_handed_in_and_told(self):
        program, inputs = rows_of(Rows.TEXT), [1, 1]
        before = copy.deepcopy(program)
        for ask in [fewest_rows, fewest_inputs]:
            first = ask(program, inputs, "zero")
            again = copy.deepcopy(first)
            first[1].clear()
            if isinstance(first[0], list):
                first[0].append(5)
            self.assertEqual(ask(program, inputs, "zero"), again)
            self.assertEqual((program, inputs), (before, [1, 1]))
        with self.assertRaises(NoFault):
            fewest_rows(ALL_WORDS, [0, 0], "none")


if __name__ == "__main__":
    unittest.main()
