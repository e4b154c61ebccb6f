"""Numbers brought into the range, and reckoning: slicewise.values."""

import itertools
import unittest

from slicewise.values import fit, reckoned

H = 10 ** 30
RECORDS = [(0, 0), (1, 0), (0, 1), (59, 7), (3, 200)]
EDGES = [-H, -H + 1, -H // 2, -7, -3, -2, -1, 0, 1, 2, 3, 7, H // 2, H - 2, H - 1]


class Fit(unittest.TestCase):
    def test_numbers_of_the_language_stay(self):
        for number in EDGES:
            self.assertEqual(fit(number), number)

    def test_one_beyond_each(self):
        self.assertEqual(fit(H), -H)
        self.assertEqual(fit(-H - 1), H - 1)
        self.assertEqual(fit(H + 1), -H + 1)
        self.assertEqual(fit(2 * H), 0)
        self.assertEqual(fit(-2 * H), 0)
        self.assertEqual(fit(3 * H), -H)
        self.assertEqual(fit(3 * H - 1), H - 1)
        self.assertEqual(fit(-3 * H), -H)

    def test_the_one_number_of_the_range_that_differs_by_a_multiple(self):
        for number in EDGES:
            for turns in [-10 ** 40, -3, -1, 1, 2, 10 ** 40, 10 ** 3900]:
                self.assertEqual(fit(number + turns * 2 * H), number)
                self.assertIs(type(fit(number + turns * 2 * H)), int)


class Reckoned(unittest.TestCase):
    def test_as_usual(self):
        for one, word, other, told in [
            (2, "plus", 3, 5), (2, "minus", 3, -1), (2, "times", -3, -6), (7, "over", 2, 3), (7, "rest", 2, 1),
            (-7, "over", 2, -4), (-7, "rest", 2, 1), (7, "over", -2, -4), (7, "rest", -2, -1), (-7, "over", -2, 3),
            (-7, "rest", -2, -1), (6, "over", -2, -3), (6, "rest", -2, 0), (0, "over", 5, 0), (0, "rest", -5, 0),
            (1, "over", H - 1, 0), (-1, "over", H - 1, -1), (-1, "rest", H - 1, H - 2),
            (2, "less", 3, 1), (3, "less", 2, 0), (2, "less", 2, 0), (-1, "less", 0, 1), (2, "same", 2, 1), (2, "same", 3, 0),
            (0, "same", 0, 1),
        ]:
            self.assertEqual(reckoned(one, word, other), told, (one, word, other))

    def test_the_fault_zero(self):
        for one in EDGES + RECORDS:
            for word in ["over", "rest"]:
                for other in [0] + RECORDS:
                    self.assertIsNone(reckoned(one, word, other), (one, word, other))

    def test_beyond_the_range(self):
        for one, word, other, told in [
            (H - 1, "plus", 1, -H), (-H, "minus", 1, H - 1), (H - 1, "plus", H - 1, -2), (-H, "plus", -H, 0),
            (-H, "times", -1, -H), (-H, "over", -1, -H), (-H, "rest", -1, 0), (0, "minus", -H, -H), (H - 1, "times", 2, -2),
            (10 ** 15, "times", 10 ** 15, -H), (10 ** 15, "times", 2 * 10 ** 15, 0), (-H, "times", -H, 0),
            (H - 1, "times", H - 1, 1),
        ]:
            self.assertEqual(reckoned(one, word, other), told, (one, word, other))

    def test_all_of_the_edges(self):
        for one, other in itertools.product(EDGES, EDGES):
            for word, plain in [("plus", one + other), ("minus", one - other), ("times", one * other)]:
                told = reckoned(one, word, other)
                self.assertTrue(-H <= told < H and (told - plain) % (2 * H) == 0, (one, word, other))
            self.assertEqual(reckoned(one, "less", other), int(one < other))
            self.assertEqual(reckoned(one, "same", other), int(one == other))
            if other != 0:
                rest = reckoned(one, "rest", other)
                self.assertEqual((one - rest) % other, 0)
                self.assertTrue(0 <= rest < other or other < rest <= 0)
                over = reckoned(one, "over", other)
                self.assertEqual((over - (one - rest) // other) % (2 * H), 0)
                self.assertTrue(-H <= over < H)

    def test_a_record_counts_as_nought(self):
        for record in RECORDS:
            for word in ["plus", "minus", "times", "over", "rest", "less"]:
                for number in EDGES:
                    self.assertEqual(reckoned(record, word, number), reckoned(0, word, number), (word, number))
                    self.assertEqual(reckoned(number, word, record), reckoned(number, word, 0), (word, number))
                for other in RECORDS:
                    self.assertEqual(reckoned(record, word, other), reckoned(0, word, 0), (word, other))

    def test_same_of_records(self):
        for one, other in itertools.product(RECORDS, RECORDS):
            self.assertEqual(reckoned(one, "same", other), int(one == other))
        for record in RECORDS:
            for number in EDGES:
                self.assertEqual(reckoned(record, "same", number), 0)
                self.assertEqual(reckoned(number, "same", record), 0)

    def test_kinds(self):
        for one, other in itertools.product([0, 1, -3, (2, 1)], [1, 2, -3]):
            for word in ["plus", "minus", "times", "over", "rest", "less", "same"]:
                self.assertIs(type(reckoned(one, word, other)), int)


if __name__ == "__main__":
    unittest.main()
