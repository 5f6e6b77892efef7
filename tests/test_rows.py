"""row and drop: which rows are taken, their numbers, the refusals in their order."""

import unittest

from tests.helper import GAP, GREATEST, WEATHER, counts, drop, everything, fit, last, load, row, run, set_group

MIXED = "table T a flag ; b num -3 4 ; c num 1000 1000 ;"
WIDE = "table T a num 0 31 ; b num 0 31 ; c num 0 32 ;"
FULL = [row(k % 2, k % 3, GAP) for k in range(100)]


class Rows(unittest.TestCase):
    def test_numbers_from_0(self):
        self.assertEqual(run(load(WEATHER), row(0, 0, 0), row(1, 2, 1), row(0, 0, 0))[1:], [[0], [1], [2]])

    def test_values_at_the_edges_of_their_kinds(self):
        for values in ((0, -3, 1000), (1, 4, 1000), (0, 0, 1000), (GAP, GAP, GAP), (1, GAP, 1000)):
            with self.subTest(values=values):
                self.assertEqual(last(load(MIXED), row(*values)), [0])

    def test_refused_with_3(self):
        for values in (
                (), (0,), (0, 0), (0, 0, 1000, 0), (2, 0, 1000), (-1, 0, 1000), (0, -4, 1000), (0, 5, 1000),
                (0, 0, 999), (0, 0, 1001), (0, 0, 5001), (0, 0, 4999), (0, -5000, 1000), (GREATEST, 0, 1000),
                (0, -GREATEST, 1000), (0, 0, 1000, GAP)):
            with self.subTest(values=values):
                self.assertEqual(last(load(MIXED), row(*values)), [-3])

    def test_1024_fillings_and_more(self):
        self.assertEqual(last(load(WIDE), row(GAP, GAP, 0)), [0])
        self.assertEqual(last(load(WIDE), row(GAP, 0, GAP)), [-8])
        self.assertEqual(last(load(WIDE), row(GAP, GAP, GAP)), [-8])
        six = "table T " + "".join(f"c{k} num 0 63 ;" for k in range(6))
        self.assertEqual(last(load(six), row(*[GAP] * 6)), [-8])
        self.assertEqual(last(load(six), row(GAP, 0, 0, 0, 0, 0)), [0])
        self.assertEqual(last(load(six), row(GAP, 0, 0, 0, 0, GAP)), [-8])

    def test_1025_fillings(self):
        self.assertEqual(last(load("table T a num 0 40 ; b num 0 24 ;"), row(GAP, GAP)), [-8])

    def test_a_hundred_rows(self):
        given = run(load(WEATHER), *FULL, row(0, 0, 0), row(0, 0, GAP))
        self.assertEqual(given[1:], [[k] for k in range(100)] + [[-4], [-4]])

    def test_3_before_8_before_4(self):
        full = [row(0, 0, 0) for k in range(100)]
        given = run(
            load(WIDE), row(GAP, GAP, 33), row(GAP, GAP, GAP, 0), *full,
            row(GAP, GAP, 33), row(GAP, GAP, GAP), row(GAP, GAP, 0), row(0, 0))
        self.assertEqual(given[1:3], [[-3], [-3]])
        self.assertEqual(given[-4:], [[-3], [-8], [-4], [-3]])

    def test_a_refusal_leaves_all_as_it_was(self):
        changed = [load(WEATHER), row(1, 2, 1), fit(1, 2), set_group(2, 5, [1, 3])]
        given = run(*changed, row(0, 0), row(0, 3, 0), *everything(3), row(0, 0, 0))
        self.assertEqual(given[4:6], [[-3], [-3]])
        self.assertEqual(given[6:-1], run(*changed, *everything(3))[4:])
        self.assertEqual(given[-1], [1])

    def test_a_refused_hundred_and_first_row_is_not_counted(self):
        before = run(load(WEATHER), *FULL, *everything(3))[101:]
        given = run(load(WEATHER), *FULL, row(0, 0, 0), *everything(3))
        self.assertEqual(given[101], [-4])
        self.assertEqual(given[102:], before)

    def test_8_leaves_all_as_it_was(self):
        self.assertEqual(
            run(load(WIDE), row(GAP, GAP, GAP), counts(0), row(0, 0, 0))[1:],
            [[-8], [1, 32] + [0] * 32, [0]])

    def test_a_row_leaves_the_chances_as_they_were(self):
        before = run(load(WEATHER), set_group(0, 0, [1, 2]), [6, 0], [6, 1])[2:]
        self.assertEqual(run(load(WEATHER), set_group(0, 0, [1, 2]), row(1, 1, 1), [6, 0], [6, 1])[3:], before)


class Dropping(unittest.TestCase):
    ONE = "table T a num 0 3 ;"

    def test_answers_how_many_there_are_then(self):
        self.assertEqual(
            run(load(self.ONE), row(0), row(1), row(2), drop(1), drop(0), drop(0))[4:], [[2], [1], [0]])

    def test_the_rows_behind_have_a_number_less(self):
        rows = [load(self.ONE), row(0), row(1), row(2), row(3)]
        self.assertEqual(last(*rows, drop(1), counts(0)), [1, 4, 1, 0, 1, 1])
        self.assertEqual(last(*rows, drop(1), drop(1), counts(0)), [1, 4, 1, 0, 0, 1])
        self.assertEqual(last(*rows, drop(1), drop(2), counts(0)), [1, 4, 1, 0, 1, 0])
        self.assertEqual(last(*rows, drop(0), drop(0), counts(0)), [1, 4, 0, 0, 1, 1])
        self.assertEqual(last(*rows, drop(3), drop(3)), [-2])

    def test_a_row_behind_a_drop_has_the_next_number(self):
        self.assertEqual(run(load(self.ONE), row(0), row(1), drop(0), row(2))[4], [1])

    def test_a_hundred_rows_and_one_less(self):
        given = run(load(WEATHER), *FULL, row(0, 0, 0), drop(99), row(0, 0, 0), row(0, 0, 0), drop(0), row(1, 1, 1))
        self.assertEqual(given[101:], [[-4], [99], [99], [-4], [99], [99]])

    def test_no_such_row(self):
        rows = [load(self.ONE), row(0), row(1)]
        for k in (2, -1, -2, 100, GREATEST, -GREATEST):
            with self.subTest(k=k):
                self.assertEqual(run(*rows, drop(k), counts(0), row(2))[3:], [[-2], [1, 4, 1, 1, 0, 0], [2]])
        self.assertEqual(run(load(self.ONE), drop(0), drop(-1))[1:], [[-2], [-2]])

    def test_of_two_alike_one_goes(self):
        self.assertEqual(last(load(self.ONE), row(2), row(2), drop(0), counts(0)), [1, 4, 0, 0, 1, 0])

    def test_chances_stay(self):
        calls = [load(WEATHER), row(1, 2, 1), row(0, 1, 0), fit(1, 2)]
        before = run(*calls, [6, 0], [6, 1], [6, 2])[4:]
        self.assertEqual(run(*calls, drop(0), [6, 0], [6, 1], [6, 2])[5:], before)
        refused = run(*calls, drop(2), [6, 0], [6, 1], [6, 2])
        self.assertEqual(refused[4], [-2])
        self.assertEqual(refused[5:], before)


if __name__ == "__main__":
    unittest.main()
