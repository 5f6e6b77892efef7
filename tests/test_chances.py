"""counts, fit, chances and set."""

import unittest
from math import gcd

from tests.helper import (
    GAP, GREATEST, WEATHER, chances, counts, drop, everything, fit, last, load, row, run, set_group,
)

ORDER = "table T a flag ; b num -1 1 ; c num 5 6 | b , a ;"


class Counts(unittest.TestCase):
    def test_without_rows(self):
        self.assertEqual(last(load(WEATHER), counts(2)), [6, 2] + [0] * 12)

    def test_groups_in_order_by_the_parents_as_written(self):
        for place, group in enumerate([(-1, 0), (-1, 1), (0, 0), (0, 1), (1, 0), (1, 1)]):
            for value in (5, 6):
                wanted = [0] * 12
                wanted[place * 2 + value - 5] = 1
                self.assertEqual(last(load(ORDER), row(group[1], group[0], value), counts(2)), [6, 2] + wanted)

    def test_three_parents(self):
        text = "table T a flag ; b num 7 9 ; c flag ; d flag | c , a , b ;"
        wanted = [0] * 24
        wanted[((1 * 2 + 0) * 3 + 2) * 2 + 1] = 2
        self.assertEqual(last(load(text), row(0, 9, 1, 1), row(0, 9, 1, 1), counts(3)), [12, 2] + wanted)

    def test_gaps_in_the_column_and_its_parents(self):
        rows = [load(WEATHER), row(1, 2, 1), row(GAP, 2, 1), row(1, GAP, 1), row(1, 2, GAP), row(GAP, GAP, GAP)]
        self.assertEqual(last(*rows, counts(0)), [1, 2, 0, 3])
        self.assertEqual(last(*rows, counts(1)), [2, 3, 0, 0, 0, 0, 0, 2])
        self.assertEqual(last(*rows, counts(2)), [6, 2] + [0] * 11 + [1])

    def test_a_gap_elsewhere_does_not_matter(self):
        text = "table T a flag ; b flag ; c flag | b ;"
        self.assertEqual(last(load(text), row(GAP, 1, 0), counts(2)), [2, 2, 0, 0, 1, 0])

    def test_no_such_column(self):
        for i in (3, -1, -3, 6, GREATEST, -GREATEST):
            with self.subTest(i=i):
                self.assertEqual(run(load(WEATHER), counts(i), chances(i))[1:], [[-2], [-2]])

    def test_counts_change_nothing(self):
        calls = [load(WEATHER), row(1, 2, 1), fit(1, 2)]
        self.assertEqual(
            run(*calls, counts(0), counts(9), *everything(3))[5:], run(*calls, *everything(3))[3:])

    def test_a_hundred_rows(self):
        self.assertEqual(last(load("table T a flag ;"), *[row(1)] * 100, counts(0)), [1, 2, 0, 100])


class ChancesAtFirst(unittest.TestCase):
    def test_each_value_has_the_same_chance(self):
        self.assertEqual(last(load(WEATHER), chances(0)), [1, 2, 1, 2, 1, 2])
        self.assertEqual(last(load(WEATHER), chances(1)), [2, 3] + [1, 3] * 6)
        self.assertEqual(last(load(WEATHER), chances(2)), [6, 2] + [1, 2] * 12)

    def test_one_value(self):
        self.assertEqual(last(load("table T a num 4 4 ;"), chances(0)), [1, 1, 1, 1])

    def test_64_values(self):
        self.assertEqual(last(load("table T a num 0 63 ;"), chances(0)), [1, 64] + [1, 64] * 64)


class Fit(unittest.TestCase):
    def test_with_nothing_ahead(self):
        calls = [load("table T a num 0 2 ;"), row(0), row(0), row(1), row(0), fit(0, 1), chances(0)]
        self.assertEqual(last(*calls), [1, 3, 3, 4, 1, 4, 0, 1])

    def test_with_a_fraction_ahead(self):
        calls = [load("table T a num 0 2 ;"), row(0), row(0), row(1)]
        self.assertEqual(last(*calls, fit(1, 1), chances(0)), [1, 3, 1, 2, 1, 3, 1, 6])
        self.assertEqual(last(*calls, fit(1, 2), chances(0)), [1, 3, 5, 9, 1, 3, 1, 9])
        self.assertEqual(last(*calls, fit(2, 4), chances(0)), [1, 3, 5, 9, 1, 3, 1, 9])
        self.assertEqual(last(*calls, fit(3, 2), chances(0)), [1, 3, 7, 15, 1, 3, 1, 5])

    def test_each_column_and_group(self):
        calls = [load(WEATHER), row(0, 0, 0), row(1, 2, 1), row(1, 1, GAP), row(0, 0, 0), fit(1, 1)]
        self.assertEqual(last(*calls, chances(0)), [1, 2, 1, 2, 1, 2])
        self.assertEqual(last(*calls, chances(1)), [2, 3, 3, 5, 1, 5, 1, 5, 1, 5, 2, 5, 2, 5])
        self.assertEqual(last(*calls, chances(2)), [6, 2, 3, 4, 1, 4] + [1, 2] * 8 + [1, 3, 2, 3])

    def test_a_group_without_counts_stays_as_it_was_with_nothing_ahead(self):
        calls = [load(WEATHER), set_group(1, 0, [1, 2, 3]), set_group(1, 1, [4, 5, 6]), set_group(2, 3, [1, 7])]
        self.assertEqual(last(*calls, row(1, 2, GAP), fit(0, 1), chances(0)), [1, 2, 0, 1, 1, 1])
        self.assertEqual(last(*calls, row(1, 2, GAP), fit(0, 1), chances(1)), [2, 3, 1, 6, 1, 3, 1, 2, 0, 1, 0, 1, 1, 1])
        self.assertEqual(
            last(*calls, row(1, 2, GAP), fit(0, 1), chances(2)), [6, 2] + [1, 2] * 6 + [1, 8, 7, 8] + [1, 2] * 4)

    def test_a_group_without_counts_becomes_even_with_something_ahead(self):
        calls = [load(WEATHER), set_group(1, 0, [1, 2, 3]), fit(1, GREATEST), chances(1)]
        self.assertEqual(last(*calls), [2, 3] + [1, 3] * 6)

    def test_a_group_that_stayed_can_be_set_and_fitted_later(self):
        calls = [load(WEATHER), fit(0, 1), fit(0, 5), set_group(1, 0, [1, 2, 3])]
        self.assertEqual(last(*calls, chances(1)), [2, 3, 1, 6, 1, 3, 1, 2] + [1, 3] * 3)
        self.assertEqual(last(*calls, row(0, 1, 0), fit(0, 1), chances(1)), [2, 3, 0, 1, 1, 1, 0, 1] + [1, 3] * 3)

    def test_without_rows(self):
        calls = [load(WEATHER), set_group(0, 0, [1, 2])]
        self.assertEqual(last(*calls, fit(0, 7), chances(0)), [1, 2, 1, 3, 2, 3])
        self.assertEqual(last(*calls, fit(7, 1), chances(0)), [1, 2, 1, 2, 1, 2])

    def test_the_chances_before_do_not_matter_where_there_are_counts(self):
        calls = [load("table T a flag ;"), row(0), row(1), row(1)]
        self.assertEqual(last(*calls, set_group(0, 0, [5, 1]), fit(0, 1), chances(0)), [1, 2, 1, 3, 2, 3])
        self.assertEqual(last(*calls, fit(9, 1), fit(0, 1), chances(0)), [1, 2, 1, 3, 2, 3])

    def test_fitted_chances_stay_when_rows_come_and_go(self):
        calls = [load("table T a flag ;"), row(0), row(1), row(1), fit(0, 1)]
        self.assertEqual(last(*calls, row(0), drop(1), chances(0)), [1, 2, 1, 3, 2, 3])

    def test_great_numbers(self):
        calls = [load("table T a flag ;"), row(0)]
        big = GREATEST
        self.assertEqual(last(*calls, fit(big, 1), chances(0)), [1, 2, big + 1, 2 * big + 1, big, 2 * big + 1])
        self.assertEqual(last(*calls, fit(1, big), chances(0)), [1, 2, big + 1, big + 2, 1, big + 2])
        self.assertEqual(last(*calls, fit(big, big), chances(0)), [1, 2, 2, 3, 1, 3])
        self.assertEqual(last(*calls, fit(0, big), chances(0)), [1, 2, 1, 1, 0, 1])
        self.assertEqual(
            last(*calls, fit(big - 1, big), chances(0)),
            [1, 2, 2 * big - 1, 3 * big - 2, big - 1, 3 * big - 2])

    def test_refused_with_3(self):
        calls = [load(WEATHER), row(1, 2, 1), set_group(0, 0, [1, 3])]
        before = run(*calls, *everything(3))[3:]
        for n, d in ((-1, 1), (0, 0), (1, 0), (1, -1), (-1, -1), (-GREATEST, 1), (GREATEST, -GREATEST), (-1, 0)):
            with self.subTest(n=n, d=d):
                given = run(*calls, fit(n, d), *everything(3))
                self.assertEqual(given[3], [-3])
                self.assertEqual(given[4:], before)


class SetGroup(unittest.TestCase):
    def test_weights_are_divided_by_their_sum(self):
        self.assertEqual(
            run(load(WEATHER), set_group(1, 1, [1, 2, 3]), chances(1))[1:],
            [[1], [2, 3] + [1, 3] * 3 + [1, 6, 1, 3, 1, 2]])

    def test_that_group_alone(self):
        calls = [load(WEATHER), set_group(2, 4, [0, 5])]
        self.assertEqual(last(*calls, chances(2)), [6, 2] + [1, 2] * 8 + [0, 1, 1, 1] + [1, 2] * 2)
        self.assertEqual(last(*calls, chances(0)), [1, 2, 1, 2, 1, 2])
        self.assertEqual(last(*calls, chances(1)), [2, 3] + [1, 3] * 6)
        self.assertEqual(last(*calls, counts(2)), [6, 2] + [0] * 12)

    def test_again(self):
        self.assertEqual(
            last(load(WEATHER), set_group(0, 0, [1, 3]), set_group(0, 0, [2, 1]), chances(0)), [1, 2, 2, 3, 1, 3])

    def test_lowest_terms(self):
        self.assertEqual(last(load(WEATHER), set_group(0, 0, [6, 10]), chances(0)), [1, 2, 3, 8, 5, 8])
        self.assertEqual(last(load(WEATHER), set_group(0, 0, [0, 10]), chances(0)), [1, 2, 0, 1, 1, 1])
        self.assertEqual(last(load("table T a num 0 0 ;"), set_group(0, 0, [12]), chances(0)), [1, 1, 1, 1])

    def test_great_numbers(self):
        big = GREATEST
        self.assertEqual(last(load(WEATHER), set_group(0, 0, [big, big]), chances(0)), [1, 2, 1, 2, 1, 2])
        self.assertEqual(
            last(load(WEATHER), set_group(0, 0, [big, big - 1]), chances(0)),
            [1, 2, big, 2 * big - 1, big - 1, 2 * big - 1])
        self.assertEqual(
            last(load(WEATHER), set_group(0, 0, [1, big]), chances(0)), [1, 2, 1, big + 1, big, big + 1])
        weights = [big - k for k in range(64)]
        given = last(load("table T a num 0 63 ;"), set_group(0, 0, weights), chances(0))
        total = sum(weights)
        wanted = [1, 64]
        for weight in weights:
            wanted += [weight // gcd(weight, total), total // gcd(weight, total)]
        self.assertEqual(given, wanted)

    def refused(self, number, calls):
        changed = [load(WEATHER), row(1, 2, 1), fit(1, 2), set_group(2, 5, [1, 3])]
        before = run(*changed, *everything(3))[4:]
        for call in calls:
            with self.subTest(call=call):
                given = run(*changed, call, *everything(3))
                self.assertEqual(given[4], [number])
                self.assertEqual(given[5:], before)

    def test_no_such_column_or_group(self):
        self.refused(-2, [
            set_group(3, 0, [1, 1]), set_group(-1, 0, [1, 1]), set_group(GREATEST, 0, [1, 1]),
            set_group(-GREATEST, 0, [1, 1]), set_group(0, 1, [1, 1]), set_group(0, -1, [1, 1]),
            set_group(1, 2, [1, 1, 1]), set_group(2, 6, [1, 1]), set_group(2, -6, [1, 1]),
            set_group(2, GREATEST, [1, 1]), set_group(2, -GREATEST, [1, 1])])

    def test_2_before_3(self):
        self.refused(-2, [
            set_group(3, 0, []), set_group(0, 1, [0, 0]), set_group(0, -1, [-1, 1]), set_group(-1, 0, [1]),
            set_group(2, 6, [1, 1, 1])])

    def test_wrong_weights(self):
        self.refused(-3, [
            set_group(0, 0, []), set_group(0, 0, [1]), set_group(0, 0, [1, 1, 1]), set_group(1, 0, [1, 1]),
            set_group(0, 0, [0, 0]), set_group(1, 1, [0, 0, 0]), set_group(0, 0, [-1, 2]), set_group(0, 0, [2, -1]),
            set_group(0, 0, [-1, 0]), set_group(0, 0, [0, -1]), set_group(0, 0, [-1, 1]), set_group(0, 0, [-1, -1]),
            set_group(0, 0, [GREATEST, -GREATEST]), set_group(0, 0, [1] * 2000), set_group(2, 5, [0] * 2000)])


if __name__ == "__main__":
    unittest.main()
