"""chance, post and fill: a row's fillings, their chances, the refusals in their order."""

import unittest

from tests.helper import (
    GAP, GREATEST, WEATHER, chance, everything, fill, fit, last, load, post, row, run, set_group,
)

WIDE = "table T a num 0 31 ; b num 0 31 ; c num 0 32 ;"
SIX = "table T " + "".join(f"c{k} num 0 63 ;" for k in range(6))
# Parents that are written in another order than they stand in, and kinds that don't begin at 0.
TURNED = "table T a flag ; b num -1 1 ; c num 5 6 | b , a ;"

WET = [
    load(WEATHER), set_group(0, 0, [3, 1]), set_group(1, 0, [4, 1, 0]), set_group(1, 1, [1, 2, 2]),
    set_group(2, 0, [9, 1]), set_group(2, 1, [1, 4]), set_group(2, 3, [1, 1]), set_group(2, 4, [1, 3]),
    set_group(2, 5, [0, 1]),
]


class Chance(unittest.TestCase):
    def test_without_gaps_the_product_over_the_columns(self):
        self.assertEqual(last(*WET, chance(0, 0, 0)), [1, 27, 50])
        self.assertEqual(last(*WET, chance(0, 1, 1)), [1, 3, 25])
        self.assertEqual(last(*WET, chance(1, 1, 1)), [1, 3, 40])
        self.assertEqual(last(*WET, chance(1, 2, 1)), [1, 1, 10])

    def test_at_first(self):
        self.assertEqual(last(load(WEATHER), chance(1, 2, 0)), [1, 1, 12])
        self.assertEqual(last(load(WEATHER), chance(1, 2, GAP)), [1, 1, 6])

    def test_one_gap(self):
        self.assertEqual(last(*WET, chance(GAP, 1, 1)), [1, 39, 200])
        self.assertEqual(last(*WET, chance(1, GAP, 1)), [1, 1, 5])
        self.assertEqual(last(*WET, chance(1, 1, GAP)), [1, 1, 10])

    def test_several_gaps(self):
        self.assertEqual(last(*WET, chance(0, GAP, GAP)), [1, 3, 4])
        self.assertEqual(last(*WET, chance(GAP, 2, GAP)), [1, 1, 10])
        self.assertEqual(last(*WET, chance(GAP, GAP, 1)), [1, 19, 50])

    def test_gaps_alone(self):
        self.assertEqual(last(*WET, chance(GAP, GAP, GAP)), [1, 1, 1])
        self.assertEqual(last(load("table T a num 4 4 ;"), chance(GAP)), [1, 1, 1])

    def test_the_chance_0(self):
        self.assertEqual(last(*WET, chance(0, 2, 1)), [1, 0, 1])
        self.assertEqual(last(*WET, chance(0, 2, GAP)), [1, 0, 1])

    def test_parents_as_they_are_written(self):
        calls = [load(TURNED)] + [set_group(2, g, [g + 1, 9 - g]) for g in range(6)]
        for g, (b, a) in enumerate([(-1, 0), (-1, 1), (0, 0), (0, 1), (1, 0), (1, 1)]):
            self.assertEqual(last(*calls, post(2, a, b, GAP))[1:3], last(*calls, [6, 2])[2 + 4 * g:4 + 4 * g])
        self.assertEqual(last(*calls, chance(0, 1, 5)), [1, 1, 12])
        self.assertEqual(last(*calls, chance(1, -1, 5)), [1, 1, 30])

    def test_great_numbers(self):
        big = GREATEST
        calls = [load("table T a flag ; b flag | a ;"), set_group(0, 0, [1, big]), set_group(1, 0, [1, big - 2]),
                 set_group(1, 1, [big, 1])]
        above = (big + 1) + big * big * (big - 1)
        self.assertEqual(last(*calls, chance(0, 0)), [1, 1, (big + 1) * (big - 1)])
        self.assertEqual(last(*calls, chance(GAP, 0))[1] * (big + 1) ** 2 * (big - 1),
                         last(*calls, chance(GAP, 0))[2] * above)

    def test_data_rows_do_not_matter(self):
        self.assertEqual(last(*WET, row(0, 0, 0), row(0, 2, 1), chance(1, 2, 1)), [1, 1, 10])
        self.assertEqual(last(load(WEATHER), *[row(0, 0, 0)] * 100, chance(1, 2, 1)), [1, 1, 12])


class Post(unittest.TestCase):
    def test_a_gap(self):
        self.assertEqual(last(*WET, post(0, GAP, 1, 1)), [2, 8, 13, 5, 13])
        self.assertEqual(last(*WET, post(1, 1, GAP, 1)), [3, 1, 8, 3, 8, 1, 2])
        self.assertEqual(last(*WET, post(2, 1, 1, GAP)), [2, 1, 4, 3, 4])

    def test_several_gaps(self):
        self.assertEqual(last(*WET, post(0, GAP, GAP, 1)), [2, 9, 19, 10, 19])
        self.assertEqual(last(*WET, post(1, GAP, GAP, 1)), [3, 17, 76, 39, 76, 5, 19])
        self.assertEqual(last(*WET, post(2, GAP, GAP, GAP)), [2, 31, 50, 19, 50])

    def test_a_column_without_a_gap(self):
        self.assertEqual(last(*WET, post(1, GAP, 1, GAP)), [3, 0, 1, 1, 1, 0, 1])
        self.assertEqual(last(*WET, post(0, 1, 1, 0)), [2, 0, 1, 1, 1])
        self.assertEqual(last(load(TURNED), post(1, GAP, -1, GAP)), [3, 1, 1, 0, 1, 0, 1])

    def test_one_value(self):
        self.assertEqual(last(load("table T a num 4 4 ;"), post(0, GAP)), [1, 1, 1])

    def test_no_such_column(self):
        for i in (3, -1, -3, 6, GREATEST, -GREATEST):
            with self.subTest(i=i):
                self.assertEqual(last(*WET, post(i, GAP, GAP, GAP)), [-2])

    def test_the_chance_0(self):
        self.assertEqual(last(*WET, post(2, 0, 2, GAP)), [-6])
        self.assertEqual(last(*WET, post(0, 0, 2, 1)), [-6])
        self.assertEqual(last(*WET, post(0, GAP, 2, 0)), [-6])
        self.assertEqual(last(*WET, post(0, GAP, 2, GAP)), [2, 0, 1, 1, 1])

    def test_2_before_3_before_8_before_6(self):
        calls = [load(WIDE), set_group(0, 0, [1] + [0] * 31)]
        self.assertEqual(last(*calls, post(3, 0)), [-2])
        self.assertEqual(last(*calls, post(3, GAP, GAP, GAP)), [-2])
        self.assertEqual(last(*calls, post(-1, 1, 0, 0)), [-2])
        self.assertEqual(last(*calls, post(0, GAP, GAP, 33)), [-3])
        self.assertEqual(last(*calls, post(0, GAP, GAP, GAP, GAP)), [-3])
        self.assertEqual(last(*calls, post(0, 1, 0, 33)), [-3])
        self.assertEqual(last(*calls, post(0, 1, GAP, GAP)), [-8])
        self.assertEqual(last(*calls, post(0, 1, GAP, 0)), [-6])


class Fill(unittest.TestCase):
    def test_without_gaps(self):
        self.assertEqual(last(*WET, fill(1, 1, 1)), [1, 3, 40, 1, 1, 1])

    def test_one_gap(self):
        self.assertEqual(last(*WET, fill(GAP, 1, 1)), [1, 3, 25, 0, 1, 1])
        self.assertEqual(last(*WET, fill(1, GAP, 1)), [1, 1, 10, 1, 2, 1])
        self.assertEqual(last(*WET, fill(1, 1, GAP)), [1, 3, 40, 1, 1, 1])

    def test_gaps_alone(self):
        self.assertEqual(last(*WET, fill(GAP, GAP, GAP)), [1, 27, 50, 0, 0, 0])

    def test_several_of_the_greatest_chance(self):
        self.assertEqual(last(load(WEATHER), fill(GAP, GAP, GAP)), [12, 1, 12, 0, 0, 0])
        self.assertEqual(last(load(WEATHER), fill(GAP, 1, GAP)), [4, 1, 12, 0, 1, 0])
        calls = [load(WEATHER), set_group(1, 0, [0, 1, 1]), set_group(1, 1, [1, 1, 0])]
        self.assertEqual(last(*calls, fill(GAP, GAP, GAP)), [8, 1, 8, 0, 1, 0])
        self.assertEqual(last(*calls, fill(1, GAP, GAP)), [4, 1, 8, 1, 0, 0])
        self.assertEqual(last(*calls, fill(GAP, 0, GAP)), [2, 1, 8, 1, 0, 0])
        self.assertEqual(last(*calls, fill(0, GAP, 1)), [2, 1, 8, 0, 1, 1])

    def test_the_first_column_that_differs_decides(self):
        calls = [load("table T a flag ; b num 7 9 | a ;"), set_group(1, 0, [0, 0, 1]), set_group(1, 1, [1, 0, 0])]
        self.assertEqual(last(*calls, fill(GAP, GAP)), [2, 1, 2, 0, 9])
        self.assertEqual(last(*calls, fill(1, GAP)), [1, 1, 2, 1, 7])

    def test_the_chance_0(self):
        self.assertEqual(last(*WET, fill(0, 2, GAP)), [2, 0, 1, 0, 2, 0])
        self.assertEqual(last(*WET, fill(0, 2, 1)), [1, 0, 1, 0, 2, 1])
        calls = [load(TURNED), set_group(1, 0, [1, 0, 1])]
        self.assertEqual(last(*calls, fill(GAP, 0, GAP)), [4, 0, 1, 0, 0, 5])

    def test_fillings_that_are_close(self):
        big = GREATEST
        calls = [load("table T a num 0 2 ;"), set_group(0, 0, [big - 2, big, big - 1])]
        self.assertEqual(last(*calls, fill(GAP)), [1, big, 3 * big - 3, 1])
        calls = [load("table T a num 0 2 ;"), set_group(0, 0, [big - 2, big, big])]
        self.assertEqual(last(*calls, fill(GAP)), [2, big // 2, (3 * big - 2) // 2, 1])

    def test_fractions_of_several_numbers_below(self):
        calls = [load("table T a flag ; b flag | a ;"), set_group(1, 0, [1, 2]), set_group(1, 1, [2, 5])]
        self.assertEqual(last(*calls, fill(GAP, GAP)), [1, 5, 14, 1, 1])
        self.assertEqual(last(*calls, fill(GAP, 0)), [1, 1, 6, 0, 0])


class Refusals(unittest.TestCase):
    def asked(self, values):
        return [chance(*values), post(0, *values), fill(*values)]

    def test_refused_with_3(self):
        text = "table T a flag ; b num -3 4 ; c num 1000 1000 ;"
        for values in (
                (), (0,), (0, 0), (0, 0, 1000, 0), (2, 0, 1000), (-1, 0, 1000), (0, -4, 1000), (0, 5, 1000),
                (0, 0, 999), (0, 0, 1001), (0, 0, 5001), (0, 0, 4999), (0, -5000, 1000), (GREATEST, 0, 1000),
                (0, -GREATEST, 1000), (0, 0, 1000, GAP), (GAP,) * 2000):
            with self.subTest(values=values):
                self.assertEqual(run(load(text), *self.asked(values))[1:], [[-3]] * 3)

    def test_1024_fillings_and_more(self):
        self.assertEqual(
            run(load(WIDE), *self.asked((GAP, GAP, 0)))[1:],
            [[1, 1, 33], [32] + [1, 32] * 32, [1024, 1, 32 * 32 * 33, 0, 0, 0]])
        for values in ((GAP, 0, GAP), (0, GAP, GAP), (GAP, GAP, GAP)):
            self.assertEqual(run(load(WIDE), *self.asked(values))[1:], [[-8]] * 3)
        self.assertEqual(
            run(load("table T a num 0 40 ; b num 0 24 ;"), *self.asked((GAP, GAP)))[1:], [[-8]] * 3)
        self.assertEqual(run(load(SIX), *self.asked((GAP,) * 6))[1:], [[-8]] * 3)
        self.assertEqual(last(load(SIX), chance(0, 0, GAP, 0, 0, 0)), [1, 1, 64 ** 5])

    def test_3_before_8(self):
        for values in ((GAP, GAP, 33), (GAP, GAP, GAP, 0), (GAP, GAP, GAP, GAP), (-1, GAP, GAP)):
            self.assertEqual(run(load(WIDE), *self.asked(values))[1:], [[-3]] * 3)

    def test_refusals_and_answers_leave_all_as_it_was(self):
        calls = [load(WEATHER), row(1, 2, 1), row(1, GAP, 0), fit(1, 2), set_group(1, 0, [1, 1, 0])]
        before = run(*calls, *everything(3))[5:]
        for values in ((0, 0), (0, 3, 0), (0, 2, GAP), (1, GAP, GAP), (1, 1, 1), (GAP, GAP, GAP)):
            asked = self.asked(values) + [post(3, *values)]
            given = run(*calls, *asked, *everything(3), row(0, 0, 0))
            self.assertEqual(given[9:-1], before)
            self.assertEqual(given[-1], [2])


if __name__ == "__main__":
    unittest.main()
