"""Numbers, names, rows, and what is told of a row: slicewise.rows."""

import copy
import unittest

from slicewise.rows import class_of, is_name, is_number, is_row, makes, risky, uses

H = 10 ** 30
LETTERS = "abcdefghijklmnopqrstuvwxyz"
ROW_WORDS = ["def", "give", "put", "do", "new", "get", "set", "call", "fail",
             "if", "else", "while", "end", "skip"]
RECKONINGS = ["plus", "minus", "times", "over", "rest", "less", "same"]

NO_NAMES = ["", "abcdefghi", "abcdefghij", "A", "aB", "Main", "a1", "1", "a_b", "_", " ", "a ", " a",
            "a b", "a\n", "\n", "a\t", "a-b", "-a", ".a", "a.", "#", "~", "a~", "`", "{", "@", "Z"]
NAMES = ["a", "z", "x", "ab", "main", "abcdefg", "abcdefgh", "zzzzzzzz"] + ROW_WORDS + RECKONINGS
NO_NUMBERS = [H, H + 1, -H - 1, 2 * H, -2 * H, 10 ** 3999, -(10 ** 3999), True, False]
NUMBERS = [0, 1, -1, 7, -3, 60, H - 1, H - 2, -H, -H + 1]
NO_OPERANDS = NO_NAMES + NO_NUMBERS + [(), ("a",), (1,), ((),), (("a",), 1)]
FIELDS = [".a", ".z", ".next", ".abcdefgh", ".def", ".plus"]
NO_FIELDS = [".", "..", "..a", ".abcdefghi", ".A", ".a1", ".1", ". a", ".a ", ".a.b", "a.b", "next.", "-.a", "#"]
NO_KEYS = NO_FIELDS + [part for part in NO_OPERANDS if part != ".a"]
OTHER_KINDS = [None, 1.0, 0.5, b"a", [], ["a"], {}, {"a": 1}, set(), frozenset(), object(), int, len]


class Truths(unittest.TestCase):
    def told(self, answer, wanted, of):
        # Answers are the truths themselves, not things that count as such.
        self.assertIs(answer, wanted, repr(of)[:80])


class Numbers(Truths):
    def test_numbers(self):
        for thing in NUMBERS:
            self.told(is_number(thing), True, thing)

    def test_beyond_and_truths(self):
        for thing in NO_NUMBERS:
            self.told(is_number(thing), False, thing)

    def test_of_anything(self):
        for thing in OTHER_KINDS + NAMES + NO_NAMES + FIELDS + ["1", "-1", "0", (), (1,)]:
            self.told(is_number(thing), False, thing)


class Names(Truths):
    def test_names(self):
        for thing in NAMES + list(LETTERS):
            self.told(is_name(thing), True, thing)

    def test_all_signs_alone_and_within(self):
        for code in list(range(32, 127)) + [9, 10]:
            sign = chr(code)
            self.told(is_name(sign), sign in LETTERS, sign)
            self.told(is_name("a" + sign + "b"), sign in LETTERS, sign)
            self.told(is_name("abcdefg" + sign), sign in LETTERS, sign)

    def test_lengths(self):
        for length in range(0, 30):
            self.told(is_name("q" * length), 1 <= length <= 8, length)

    def test_no_names(self):
        for thing in NO_NAMES:
            self.told(is_name(thing), False, thing)

    def test_of_anything(self):
        for thing in OTHER_KINDS + NUMBERS + NO_NUMBERS + FIELDS + [("a",), (), ("a", "b")]:
            self.told(is_name(thing), False, thing)


class Classes(unittest.TestCase):
    def test_field_is_its_own_class(self):
        for field in FIELDS:
            self.assertEqual(class_of(field), field)

    def test_operands_have_one_class(self):
        for operand in NAMES + NUMBERS:
            self.assertEqual(class_of(operand), "#")


ORDINARY = [
    ("def", "main", ()), ("def", "f", ("a",)), ("def", "f", ("a", "b", "c", "d")), ("def", "f", ("f",)),
    ("give", "x"), ("give", 0), ("put", "x", "y"), ("put", "x", -5), ("put", "x", "x"),
    ("do", "x", "a", "plus", -3), ("do", "x", 1, "same", 2), ("do", "x", "x", "over", "x"),
    ("new", "r"), ("get", "z", "y", ".next"), ("get", "z", "y", "k"), ("get", "z", "y", 4),
    ("set", "r", ".next", "x"), ("set", "r", "k", 0), ("set", "r", -1, "r"),
    ("call", "y", "twice", ("x", 5)), ("call", "y", "g", ()), ("call", "y", "y", ("y", "y", "y", "y")),
    ("fail", "bad"), ("if", "x"), ("if", 0), ("else",), ("while", "x"), ("while", 1), ("end",), ("skip",),
]


class Rows(Truths):
    def yes(self, row):
        self.told(is_row(row), True, row)

    def no(self, row):
        self.told(is_row(row), False, row)

    def test_each_word_has_a_row(self):
        self.assertEqual({row[0] for row in ORDINARY}, set(ROW_WORDS))
        for row in ORDINARY:
            self.yes(row)

    def test_too_short_and_too_long(self):
        for row in ORDINARY:
            self.no(row[:-1])
            for more in [(), 0, "x", ("x",)]:
                self.no(row + (more,))

    def test_other_words(self):
        for word in ["", "Def", "put ", " put", "elif", "return", "plus", "same", "x", "ends", "#", ".put"]:
            for row in ORDINARY:
                self.no((word,) + row[1:])

    def test_each_name_part(self):
        for row, place in name_parts():
            for name in NAMES:
                self.yes(swapped(row, place, name))
            for other in NO_NAMES + NUMBERS + NO_NUMBERS + FIELDS + [(), ("a",)]:
                self.no(swapped(row, place, other))

    def test_each_operand_part(self):
        for row, place in operand_parts():
            for operand in NAMES + NUMBERS:
                self.yes(swapped(row, place, operand))
            for other in NO_OPERANDS + FIELDS:
                self.no(swapped(row, place, other))

    def test_keys(self):
        for row, place in [(("get", "x", "r", 0), 3), (("set", "r", 0, 1), 2)]:
            for key in FIELDS + NAMES + NUMBERS:
                self.yes(swapped(row, place, key))
            for other in NO_KEYS:
                self.no(swapped(row, place, other))

    def test_words_of_reckoning(self):
        for word in RECKONINGS:
            self.yes(("do", "x", "a", word, "b"))
        for word in ["", "add", "Plus", "plus ", "x", "more", "put", ".plus", 0, 1, True, (), ("plus",)]:
            self.no(("do", "x", "a", word, "b"))

    def test_parameters(self):
        for given in [(), ("a",), ("a", "b"), ("a", "b", "c", "d"), ("put", "plus", "f", "def"), ("abcdefgh",)]:
            self.yes(("def", "f", given))
        for given in [("a", "b", "c", "d", "e"), ("a", "a"), ("a", "b", "a"), ("a", "b", "c", "a"), ("c", "b", "d", "b"),
                      (1,), ("a", 1), (True,), (".a",), ("a", ".b"), ("abcdefghi",), ("",), (("a",),), ((),),
                      "a", "", "ab", 0, 1]:
            self.no(("def", "f", given))

    def test_operands_of_a_call(self):
        for given in [(), ("a",), ("a", "a"), (1, 1, 1, 1), ("a", -3, "put", H - 1), (-H,)]:
            self.yes(("call", "x", "f", given))
        for given in [(1, 2, 3, 4, 5), ("a", "b", "c", "d", "e"), (H,), (-H - 1,), ("a", True), (False,), (".a",),
                      ("a", ".b"), ("abcdefghi",), ("",), (("a",),), ((),), "a", "", 0, 1]:
            self.no(("call", "x", "f", given))

    def test_numbers_at_the_edge_and_beyond(self):
        self.yes(("put", "x", H - 1))
        self.no(("put", "x", H))
        self.yes(("put", "x", -H))
        self.no(("put", "x", -H - 1))
        self.no(("put", "x", True))
        self.no(("put", "x", False))


def swapped(row, place, part):
    return row[:place] + (part,) + row[place + 1:]


def name_parts():
    return [(("def", "f", ()), 1), (("put", "x", 0), 1), (("do", "x", 0, "plus", 0), 1), (("new", "x"), 1),
            (("get", "x", "r", 0), 1), (("get", "x", "r", 0), 2), (("set", "r", 0, 0), 1),
            (("call", "x", "f", ()), 1), (("call", "x", "f", ()), 2), (("fail", "w"), 1)]


def operand_parts():
    return [(("give", 0), 1), (("put", "x", 0), 2), (("do", "x", 0, "plus", 0), 2), (("do", "x", 0, "plus", 0), 4),
            (("set", "r", 0, 0), 3), (("if", 0), 1), (("while", 0), 1)]


class Uses(unittest.TestCase):
    def test_each_word(self):
        for row, names in [
            (("def", "f", ("b", "a")), []), (("give", "x"), ["x"]), (("give", 3), []),
            (("put", "x", "y"), ["y"]), (("put", "x", 3), []), (("put", "x", "x"), ["x"]),
            (("do", "x", "b", "plus", "a"), ["a", "b"]), (("do", "x", 1, "plus", "a"), ["a"]),
            (("do", "x", "a", "plus", 1), ["a"]), (("do", "x", 1, "less", 1), []),
            (("new", "x"), []),
            (("get", "x", "r", ".k"), ["r"]), (("get", "x", "r", "k"), ["k", "r"]), (("get", "x", "r", 5), ["r"]),
            (("set", "r", ".k", "a"), ["a", "r"]), (("set", "r", "k", "a"), ["a", "k", "r"]),
            (("set", "r", 5, 6), ["r"]), (("set", "r", ".k", 1), ["r"]),
            (("call", "x", "f", ("c", 1, "a", "b")), ["a", "b", "c"]), (("call", "x", "f", ()), []),
            (("call", "x", "f", (1, 2)), []), (("fail", "w"), []), (("if", "x"), ["x"]), (("if", 1), []),
            (("else",), []), (("while", "x"), ["x"]), (("while", 0), []), (("end",), []), (("skip",), []),
        ]:
            self.assertEqual(uses(row), names, row)

    def test_each_once(self):
        self.assertEqual(uses(("do", "x", "a", "same", "a")), ["a"])
        self.assertEqual(uses(("set", "a", "a", "a")), ["a"])
        self.assertEqual(uses(("get", "a", "a", "a")), ["a"])
        self.assertEqual(uses(("call", "x", "f", ("b", "a", "b", "a"))), ["a", "b"])

    def test_a_word_of_reckoning_as_operand_is_a_name(self):
        self.assertEqual(uses(("do", "plus", "times", "plus", "minus")), ["minus", "times"])
        self.assertEqual(uses(("set", "put", "set", "get")), ["get", "put", "set"])


class Makes(unittest.TestCase):
    def test_each_word(self):
        for row, names in [
            (("def", "f", ("b", "a", "d", "c")), ["b", "a", "d", "c"]), (("def", "f", ()), []), (("give", "x"), []),
            (("put", "x", "y"), ["x"]), (("do", "x", "a", "plus", "b"), ["x"]), (("new", "x"), ["x"]),
            (("get", "x", "r", "k"), ["x"]), (("set", "r", "k", "a"), []), (("call", "x", "f", ("a",)), ["x"]),
            (("fail", "w"), []), (("if", "x"), []), (("else",), []), (("while", "x"), []), (("end",), []),
            (("skip",), []),
        ]:
            self.assertEqual(makes(row), names, row)
            self.assertIs(type(makes(row)), list)


class Risky(Truths):
    def test_fail_and_while(self):
        self.told(risky(("fail", "bad")), True, "fail")
        for operand in ["x", 0, 1]:
            self.told(risky(("while", operand)), True, operand)

    def test_dividing(self):
        for word in ["over", "rest"]:
            for divisor in ["b", "over", 0]:
                self.told(risky(("do", "x", 1, word, divisor)), True, (word, divisor))
            for divisor in [1, -1, 2, H - 1, -H]:
                self.told(risky(("do", "x", 0, word, divisor)), False, (word, divisor))
                self.told(risky(("do", "x", "b", word, divisor)), False, (word, divisor))

    def test_other_reckoning(self):
        for word in ["plus", "minus", "times", "less", "same"]:
            for other in ["b", "over", 0, 1]:
                self.told(risky(("do", "over", "rest", word, other)), False, (word, other))

    def test_no_other_row(self):
        for row in ORDINARY:
            if row[0] not in ["fail", "while", "do"]:
                self.told(risky(row), False, row)
        for word in ["fail", "while", "over", "rest"]:
            for row in [("put", word, word), ("give", word), ("new", word), ("if", word), ("def", word, (word,)),
                        ("call", word, word, (word, 0)), ("set", word, word, 0), ("get", word, word, 0)]:
                self.told(risky(row), False, row)


class OwnLists(unittest.TestCase):
    def test_told_lists_are_the_asker_s_own(self):
        for row in ORDINARY:
            for ask in [uses, makes]:
                first = ask(row)
                kept = list(first)
                first.append("more")
                first.reverse()
                self.assertEqual(ask(row), kept)
                self.assertIsNot(ask(row), ask(row))

    def test_rows_stay_as_they_were(self):
        for row in ORDINARY:
            before = copy.deepcopy(row)
            for ask in [is_row, uses, makes, risky]:
                ask(row)
            self.assertEqual(row, before)

    def test_other_rows_do_not_change_an_answer(self):
        before = [(is_row(row), uses(row), makes(row), risky(row)) for row in ORDINARY]
        after = [(is_row(row), uses(row), makes(row), risky(row)) for row in reversed(ORDINARY)]
        self.assertEqual(before, after[::-1])


if __name__ == "__main__":
    unittest.main()
