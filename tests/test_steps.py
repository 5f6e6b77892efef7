"""even, likely, expect and step."""

import unittest
from fractions import Fraction

from tests.helper import (
    GAP, GREATEST, WEATHER, chance, chances, drop, even, everything, expect, fit, last, likely, load, row, run,
    set_group, step,
)
from tests.made import expected_tables, fractions

COIN = "table T a flag ;"
PAIR = "table T a flag ; b flag | a ;"
TRIPLE = "table T a flag ; b flag | a ; c flag | a ;"
MOST = 10 ** 40


def three(first):
    """The calls that ask for the chances of three columns, from the one that is told on."""
    return [chances(first), chances(first + 1), chances(first + 2)]


class Even(unittest.TestCase):
    def test_the_chances_are_those_at_first(self):
        calls = [load(WEATHER), row(1, 2, 1), row(0, 0, GAP)]
        at_first = run(*calls, *everything(3))[3:]
        for change in ([], [fit(1, 2)], [fit(0, 1)], [set_group(2, 5, [1, 3])], [step()], [fit(0, 1), step()]):
            self.assertEqual(run(*calls, *change, even(), *everything(3))[3 + len(change):], [[1]] + at_first)

    def test_the_rows_stay(self):
        self.assertEqual(last(load(COIN), row(0), row(1), even(), row(1)), [2])

    def test_what_is_set_behind_it_holds(self):
        calls = [load(WEATHER), even(), set_group(1, 0, [1, 2, 3]), even(), set_group(1, 1, [1, 2, 3]), chances(1)]
        self.assertEqual(last(*calls), [2, 3] + [1, 3] * 3 + [1, 6, 1, 3, 1, 2])


class Likely(unittest.TestCase):
    def test_without_rows(self):
        self.assertEqual(last(load(WEATHER), likely()), [1, 1, 1])
        self.assertEqual(last(load(WEATHER), row(0, 0, 0), drop(0), likely()), [1, 1, 1])
        self.assertEqual(last(load(WEATHER), set_group(0, 0, [0, 1]), likely()), [1, 1, 1])

    def test_the_product_over_the_rows(self):
        calls = [load(COIN), set_group(0, 0, [1, 2])]
        self.assertEqual(last(*calls, row(0), likely()), [1, 1, 3])
        self.assertEqual(last(*calls, row(0), row(1), likely()), [1, 2, 9])
        self.assertEqual(last(*calls, row(1), row(1), row(1), likely()), [1, 8, 27])
        self.assertEqual(last(*calls, row(GAP), row(GAP), likely()), [1, 1, 1])

    def test_what_cancels_between_rows(self):
        calls = [load("table T a num 0 2 ; b num 0 1 ;"), set_group(0, 0, [2, 3, 1]), set_group(1, 0, [3, 1])]
        self.assertEqual(last(*calls, row(0, GAP), row(GAP, 0), likely()), [1, 1, 4])
        self.assertEqual(last(*calls, row(0, 0), row(1, 0), row(2, 1), likely()), [1, 1, 256])

    def test_a_row_of_the_chance_0(self):
        calls = [load(COIN), set_group(0, 0, [0, 1])]
        self.assertEqual(last(*calls, row(0), likely()), [1, 0, 1])
        self.assertEqual(last(*calls, row(1), row(0), row(1), row(GAP), likely()), [1, 0, 1])
        self.assertEqual(last(*calls, row(1), row(0), drop(1), likely()), [1, 1, 1])

    def test_numbers_as_large_as_they_come(self):
        calls = [load(COIN), set_group(0, 0, [GREATEST, GREATEST - 1])] + [row(0)] * 60 + [row(1)] * 40
        self.assertEqual(
            last(*calls, likely()),
            [1, GREATEST ** 60 * (GREATEST - 1) ** 40, (2 * GREATEST - 1) ** 100])

    def test_a_hundred_rows_of_1024_fillings(self):
        text = "table T a num 0 15 ; b num 0 15 ; c flag | a , b ; d flag | b , a ; e flag | a , b ;"
        rows = [row(GAP, GAP, GAP, GAP, k % 2) for k in range(100)]
        calls = [load(text), set_group(0, 0, list(range(1, 17))), set_group(2, 200, [1, GREATEST])] + rows
        self.assertEqual(last(*calls, likely()), [1, 1, 2 ** 100])
        self.assertEqual(run(*calls, step(), likely())[103:], [[1], [1, 1, 2 ** 100]])


class Expect(unittest.TestCase):
    def test_without_rows(self):
        self.assertEqual(
            last(load(WEATHER), expect()), [3, 1, 2] + [0, 1] * 2 + [2, 3] + [0, 1] * 6 + [6, 2] + [0, 1] * 12)

    def test_without_gaps_it_is_the_counts(self):
        calls = [load(WEATHER), row(0, 0, 0), row(1, 2, 1), row(1, 2, 1), row(1, 1, 0), set_group(0, 0, [1, 9])]
        counted = [3]
        for i in range(3):
            answer = last(*calls, [4, i])
            counted += answer[:2] + [number for count in answer[2:] for number in (count, 1)]
        self.assertEqual(last(*calls, expect()), counted)

    def test_one_gap(self):
        calls = [load(PAIR), set_group(0, 0, [1, 2]), set_group(1, 0, [3, 1]), set_group(1, 1, [1, 1])]
        self.assertEqual(
            last(*calls, row(GAP, 0), expect()),
            [2, 1, 2, 3, 7, 4, 7] + [2, 2, 3, 7, 0, 1, 4, 7, 0, 1])
        self.assertEqual(
            last(*calls, row(0, GAP), expect()), [2, 1, 2, 1, 1, 0, 1] + [2, 2, 3, 4, 1, 4, 0, 1, 0, 1])

    def test_the_sum_over_the_rows(self):
        calls = [load(PAIR), set_group(0, 0, [1, 2]), set_group(1, 0, [3, 1]), set_group(1, 1, [1, 1])]
        calls += [row(GAP, 0), row(1, 1), row(GAP, 1), row(GAP, 0), row(0, GAP)]
        self.assertEqual(
            last(*calls, expect()),
            [2, 1, 2, 72, 35, 103, 35] + [2, 2, 45, 28, 9, 20, 8, 7, 9, 5])

    def test_parts_that_add_up_to_a_whole(self):
        calls = [load("table T a num 0 2 ;"), row(GAP), row(GAP), row(GAP)]
        self.assertEqual(last(*calls, expect()), [1, 1, 3, 1, 1, 1, 1, 1, 1])

    def test_gaps_alone(self):
        calls = [load(PAIR), set_group(0, 0, [1, 2]), set_group(1, 0, [3, 1]), row(GAP, GAP)]
        self.assertEqual(last(*calls, expect()), [2, 1, 2, 1, 3, 2, 3] + [2, 2, 1, 4, 1, 12, 1, 3, 1, 3])

    def test_refused_with_6(self):
        calls = [load(WEATHER), row(1, GAP, 0), row(0, 2, GAP), set_group(1, 0, [1, 1, 0]), set_group(0, 0, [1, 2])]
        for asked in (expect(), step()):
            given = run(*calls, asked, *everything(3))
            self.assertEqual(given[5], [-6])
            self.assertEqual(given[6:], run(*calls, *everything(3))[5:])
            self.assertNotEqual(last(*calls, drop(1), asked), [-6])

    def test_fillings_of_the_chance_0_alone_do_not_matter(self):
        calls = [load(PAIR), set_group(1, 0, [0, 1]), row(GAP, 0)]
        self.assertEqual(last(*calls, expect()), [2, 1, 2, 0, 1, 1, 1] + [2, 2, 0, 1, 0, 1, 1, 1, 0, 1])

    def test_numbers_as_large_as_they_come(self):
        calls = [load(TRIPLE), set_group(0, 0, [GREATEST, 1])]
        weights = [(GREATEST - 1, 5), (7, GREATEST), (GREATEST - 10, 3), (GREATEST - 5, GREATEST - 6)]
        for k, (one, other) in enumerate(weights):
            calls.append(set_group(1 + k // 2, k % 2, [one, other]))
        calls += [row(GAP, b, c) for b in (0, 1) for c in (0, 1)]
        part = [[Fraction(one, one + other), Fraction(other, one + other)] for one, other in weights]
        wanted = Fraction(0)
        for b in (0, 1):
            for c in (0, 1):
                no = GREATEST * part[0][b] * part[2][c]
                yes = part[1][b] * part[3][c]
                wanted += no / (no + yes)
        self.assertGreater(wanted.denominator, MOST)
        given = last(*calls, expect())
        self.assertEqual(given[3:5], [wanted.numerator, wanted.denominator])
        self.assertEqual(fractions(given[1:7])[0], [wanted, 4 - wanted])


class Step(unittest.TestCase):
    def test_without_rows_the_chances_stay(self):
        calls = [load(WEATHER), set_group(0, 0, [1, 2]), set_group(2, 3, [0, 5])]
        self.assertEqual(run(*calls, step(), *three(0))[3:], [[1]] + run(*calls, *three(0))[3:])

    def test_with_gaps(self):
        calls = [load(PAIR), set_group(0, 0, [1, 2]), set_group(1, 0, [3, 1]), set_group(1, 1, [1, 1])]
        calls += [row(GAP, 0), row(1, 1), row(GAP, 1), row(GAP, 0), row(0, GAP), step()]
        self.assertEqual(
            run(*calls, chances(0), chances(1))[-3:],
            [[1], [1, 2, 72, 175, 103, 175], [2, 2, 25, 32, 7, 32, 40, 103, 63, 103]])

    def test_all_is_reckoned_by_the_chances_before_the_step(self):
        calls = [load(PAIR), set_group(0, 0, [1, 3]), row(0, GAP), row(GAP, 1), row(1, 0)]
        expected = expected_tables(last(*calls, expect()))
        for i, groups in enumerate(expected):
            wanted = [[weight / sum(group) for weight in group] for group in groups]
            self.assertEqual(fractions(last(*calls, step(), chances(i))), wanted)

    def test_without_gaps_it_comes_to_counting(self):
        rows = [row(0, 0, 0), row(1, 2, 1), row(1, 1, 0), row(0, 0, 1), row(0, 1, 1), row(0, 2, 1), row(1, 0, 0)]
        calls = [load(WEATHER), set_group(0, 0, [GREATEST, 1]), set_group(1, 1, [1, 2, GREATEST])] + rows
        self.assertEqual(run(*calls, step(), *three(0)), run(*calls, fit(0, 1), *three(0)))
        self.assertEqual(last(*calls, step(), chances(1)), [2, 3, 1, 2, 1, 4, 1, 4, 1, 3, 1, 3, 1, 3])

    def test_a_group_whose_weights_sum_is_0_stays(self):
        calls = [load(WEATHER), set_group(1, 0, [1, 2, 3]), set_group(2, 3, [1, 7]), set_group(2, 5, [2, 1])]
        calls += [row(1, 2, GAP), row(1, GAP, GAP), step()]
        self.assertEqual(
            run(*calls, *three(0))[-3:],
            [[1, 2, 0, 1, 1, 1], [2, 3, 1, 6, 1, 3, 1, 2, 1, 6, 1, 6, 2, 3],
             [6, 2] + [1, 2] * 6 + [1, 8, 7, 8] + [1, 2] * 2 + [2, 3, 1, 3]])

    def test_a_group_that_stayed_can_be_set_and_stepped_later(self):
        calls = [load(PAIR), row(0, 1), step(), step(), set_group(1, 1, [1, 4]), set_group(0, 0, [1, 1])]
        self.assertEqual(last(*calls, chances(1)), [2, 2, 0, 1, 1, 1, 1, 5, 4, 5])
        self.assertEqual(last(*calls, row(1, 0), step(), chances(1)), [2, 2, 0, 1, 1, 1, 1, 1, 0, 1])

    def test_gaps_alone_change_nothing(self):
        calls = [load(PAIR), set_group(0, 0, [1, 2]), set_group(1, 0, [GREATEST, 1]), row(GAP, GAP), row(GAP, GAP)]
        asked = [chances(0), chances(1)]
        self.assertEqual(run(*calls, step(), step(), *asked)[-2:], run(*calls, *asked)[-2:])

    def test_many_steps(self):
        # p becomes (2 + p) / 4 at each step, which goes towards 2/3.
        calls = [load(COIN), row(0), row(0), row(1), row(GAP)]
        for many in (1, 2, 10, 60):
            wanted = Fraction(1, 2)
            for k in range(many):
                wanted = (2 + wanted) / 4
            given = fractions(last(*calls, *[step()] * many, chances(0)))
            self.assertEqual(given, [[wanted, 1 - wanted]])

    def test_steps_up_to_10_to_the_40_and_one_more(self):
        rows = [row(0)] * 4 + [row(1)] * 5 + [row(GAP)]
        calls = [load(COIN), set_group(0, 0, [1, GREATEST - 1])] + rows
        given = run(*calls, *[step()] * 22, chances(0), step(), chances(0), step(), likely())[12:]
        self.assertEqual(given[:22], [[1]] * 22)
        self.assertEqual(given[22][3], MOST)
        self.assertEqual(given[22][5], MOST)
        self.assertEqual(given[23], [-9])
        self.assertEqual(given[24], given[22])
        self.assertEqual(given[25], [-9])
        self.assertEqual(last(*calls, *[step()] * 23, row(0), drop(9), step()), [1])


class Edge(unittest.TestCase):
    """A step behind which a chance has just the number below its line that is told."""

    # By that number: the weight of the first column's value, and of the row's values of the two others,
    # first in the group of no, then in that of yes.
    WEIGHTS = {
        MOST - 1: (
            (159029589968, 290931141601, 154988864620612562), (341878548091, 108497176979, 76272982871598847)),
        MOST: (
            (136838396631, 135111946961, 396991915690506689), (234118289257, 240695632613, 47207721399697661)),
        MOST + 1: (
            (234482598787, 137027049623, 172682192048873021), (169265626108, 182315961980, 144253633800650777)),
    }

    def calls(self, number, text, first):
        no, yes = self.WEIGHTS[number]
        calls = [load(text), set_group(first, 0, [no[0], yes[0]])]
        for column in (1, 2):
            calls.append(set_group(first + column, 0, [no[column], GREATEST - no[column]]))
            calls.append(set_group(first + column, 1, [yes[column], GREATEST - yes[column]]))
        return calls

    def wanted(self, number):
        no, yes = self.WEIGHTS[number]
        return [1, 2, no[0] * no[1] * no[2], number, yes[0] * yes[1] * yes[2], number]

    def test_not_above_10_to_the_40(self):
        for number in (MOST - 1, MOST):
            calls = self.calls(number, TRIPLE, 0) + [row(GAP, 0, 0)]
            self.assertEqual(run(*calls, step(), chances(0))[-2:], [[1], self.wanted(number)])
            self.assertEqual(last(*calls, step(), chances(1)), [2, 2, 1, 1, 0, 1, 1, 1, 0, 1])

    def test_above_10_to_the_40(self):
        calls = self.calls(MOST + 1, TRIPLE, 0) + [row(GAP, 0, 0)]
        self.assertEqual(last(*calls, expect())[1:7], self.wanted(MOST + 1))
        given = run(*calls, step(), *everything(3))
        self.assertEqual(given[7], [-9])
        self.assertEqual(given[8:], run(*calls, *everything(3))[7:])

    def test_above_10_to_the_40_in_a_later_column(self):
        text = "table T z flag ; y flag ; a flag ; b flag | a ; c flag | a ; d flag ;"
        for number, answer in ((MOST, 1), (MOST + 1, -9)):
            calls = self.calls(number, text, 2) + [row(0, 0, GAP, 0, 0, 1)]
            given = run(*calls, step(), *everything(6))
            self.assertEqual(given[7], [answer])
            if answer == -9:
                self.assertEqual(given[8:], run(*calls, *everything(6))[7:])
            else:
                self.assertEqual(last(*calls, step(), chances(2)), self.wanted(number))

    def test_above_10_to_the_40_on_both_sides_of_the_line(self):
        calls = [load(TRIPLE), set_group(0, 0, [GREATEST, GREATEST - 1])]
        calls += [set_group(1, 0, [GREATEST - 3, 1]), set_group(1, 1, [GREATEST - 7, 1]), row(GAP, 0, 0)]
        given = last(*calls, expect())
        self.assertGreater(min(given[3:7]), MOST)
        self.assertEqual(run(*calls, step(), chances(0))[-2:], [[-9], last(*calls, chances(0))])

    def test_6_before_9(self):
        calls = self.calls(MOST + 1, TRIPLE, 0) + [row(GAP, 0, 0)]
        self.assertEqual(last(*calls, row(1, 1, 1), set_group(2, 1, [1, 0]), step()), [-6])
        self.assertEqual(last(*calls, set_group(2, 1, [1, 0]), row(0, 0, 0), step(), chance(1, 1, 1)), [1, 0, 1])


if __name__ == "__main__":
    unittest.main()
