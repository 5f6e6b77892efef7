"""The interface: how calls stand in the list, how answers stand in what is given back, the worked example."""

import unittest

from countedchances.model import answers
from tests.helper import (
    GAP, WEATHER, chance, chances, counts, drop, even, everything, expect, fill, fit, form_of, likely, load, post, row,
    run, set_group, shown, split, step,
)

WEATHER_BYTES = [ord(sign) for sign in WEATHER]


class TheList(unittest.TestCase):
    def test_each_answer_has_its_length_ahead(self):
        calls = [0, len(WEATHER_BYTES)] + WEATHER_BYTES + [2, 3, 1, 2, 1, 4, 0, 6, 0, 3, 0, 3, 0]
        self.assertEqual(
            answers(calls),
            [1, 1] + [1, 0] + [4, 1, 2, 0, 1] + [6, 1, 2, 1, 2, 1, 2] + [1, 0] + [1, -2])

    def test_the_number_of_each_call(self):
        calls = [0, len(WEATHER_BYTES)] + WEATHER_BYTES
        self.assertEqual(answers(calls), [1, 1])
        self.assertEqual(answers(calls + [1]), [1, 1, 75, 74] + WEATHER_BYTES)
        self.assertEqual(answers(calls + [2, 3, 0, 0, 0]), [1, 1, 1, 0])
        self.assertEqual(answers(calls + [2, 3, 0, 0, 0, 3, 0]), [1, 1, 1, 0, 1, 0])
        self.assertEqual(answers(calls + [4, 0]), [1, 1, 4, 1, 2, 0, 0])
        self.assertEqual(answers(calls + [5, 0, 1]), [1, 1, 1, 1])
        self.assertEqual(answers(calls + [6, 0]), [1, 1, 6, 1, 2, 1, 2, 1, 2])
        self.assertEqual(answers(calls + [7, 0, 0, 2, 1, 3, 6, 0]), [1, 1, 1, 1, 6, 1, 2, 1, 4, 3, 4])
        self.assertEqual(answers(calls + [7, 0, 0, 2, 1, 3, 8, 6, 0])[2:], [1, 1, 1, 1, 6, 1, 2, 1, 2, 1, 2])
        self.assertEqual(answers(calls + [2, 3, 0, 0, 5000, 9])[2:], [1, 0, 3, 1, 1, 6])
        self.assertEqual(
            answers(calls + [10])[2:], [47, 3, 1, 2] + [0, 1] * 2 + [2, 3] + [0, 1] * 6 + [6, 2] + [0, 1] * 12)
        self.assertEqual(answers(calls + [2, 3, 1, 0, 0, 11, 6, 0])[2:], [1, 0, 1, 1, 6, 1, 2, 0, 1, 1, 1])
        self.assertEqual(answers(calls + [12, 3, 0, 0, 0])[2:], [3, 1, 1, 12])
        self.assertEqual(answers(calls + [13, 1, 3, 0, 5000, 0])[2:], [7, 3, 1, 3, 1, 3, 1, 3])
        self.assertEqual(answers(calls + [14, 3, 1, 5000, 0])[2:], [6, 3, 1, 12, 1, 0, 0])

    def test_calls_of_all_sorts_one_behind_another(self):
        calls = [0, len(WEATHER_BYTES)] + WEATHER_BYTES
        calls += [8, 9, 2, 3, 1, 0, 0, 9, 11, 9, 12, 3, 1, 0, 0, 13, 0, 3, 5000, 0, 0, 14, 3, 0, 0, 0, 10, 8, 9, 12, 0]
        wanted = [[1], [1], [1, 1, 1], [0], [1, 1, 12], [1], [1, 1, 1], [1, 1, 1], [2, 0, 1, 1, 1], [1, 0, 1, 0, 0, 0]]
        wanted.append(
            [3, 1, 2, 0, 1, 1, 1, 2, 3] + [0, 1] * 3 + [1, 1, 0, 1, 0, 1, 6, 2] + [0, 1] * 6 + [1, 1] + [0, 1] * 5)
        self.assertEqual(split(answers(calls)), wanted + [[1], [1, 1, 12], [-3]])

    def test_a_fault_has_three_numbers(self):
        self.assertEqual(answers([0, 0]), [3, 0, 3, 0])
        self.assertEqual(answers([0, 1, 33]), [3, 0, 2, 0])

    def test_empty_lists(self):
        calls = [0, len(WEATHER_BYTES)] + WEATHER_BYTES
        self.assertEqual(answers(calls + [2, 0, 7, 0, 0, 0]), [1, 1, 1, -3, 1, -3])
        self.assertEqual(answers(calls + [12, 0, 13, 0, 0, 14, 0]), [1, 1] + [1, -3] * 3)

    def test_long_lists(self):
        calls = [0, len(WEATHER_BYTES)] + WEATHER_BYTES
        self.assertEqual(
            answers(calls + [2, 2000] + [0] * 2000 + [7, 0, 0, 2000] + [1] * 2000), [1, 1, 1, -3, 1, -3])
        long = [2000] + [GAP] * 2000
        self.assertEqual(answers(calls + [12] + long + [13, 2] + long + [14] + long), [1, 1] + [1, -3] * 3)

    def test_400_calls(self):
        self.assertEqual(answers([1] * 400), [1, -1] * 400)

    def test_400_calls_of_all_sorts(self):
        calls = [load(WEATHER)] + [row(k % 2, k % 3 if k % 5 else GAP, GAP) for k in range(100)]
        kinds = [
            even(), likely(), expect(), step(), chance(GAP, 1, GAP), post(1, 1, GAP, 1), fill(GAP, GAP, GAP),
            set_group(2, 1, [1, 3]), fit(1, 3), step(), chances(2), counts(1), expect(), drop(0), row(1, GAP, 1)]
        calls += [kinds[k % len(kinds)] for k in range(299)]
        self.assertEqual(len(calls), 400)
        flat = [number for call in calls for number in call]
        before = list(flat)
        given = answers(flat)
        self.assertEqual(flat, before)
        self.assertEqual(len(split(given)), 400)
        self.assertEqual(split(given)[:101], [[1]] + [[k] for k in range(100)])
        self.assertEqual(answers(flat), given)
        self.assertEqual(answers(before), given)
        # What comes later in a list does not matter to what comes before it.
        self.assertEqual(run(*calls[:250]), split(given)[:250])

    def test_whole_numbers_alone(self):
        calls = [load(WEATHER), row(0, 0, GAP), fit(1, 2), set_group(0, 0, [1, 1])] + everything(3)
        calls += [even(), step(), chance(0, 0, 0), post(0, GAP, 0, 0), fill(0, GAP, GAP), expect()]
        for answer in run(*calls):
            for number in answer:
                self.assertIs(type(number), int)

    def test_what_is_handed_in_stays_as_it_is(self):
        calls = load(WEATHER)
        for call in [
                row(0, 0, 0), row(1, 1, GAP), fit(1, 3), set_group(0, 0, [2, 6]), drop(0), even(), step(),
                chance(GAP, 1, GAP), post(0, GAP, 0, GAP), fill(GAP, GAP, 1)] + everything(3):
            calls.extend(call)
        before = list(calls)
        given = answers(calls)
        self.assertEqual(calls, before)
        given.append(0)
        self.assertEqual(calls, before)

    def test_nothing_is_kept_from_one_time_to_the_next(self):
        calls = load(WEATHER) + row(1, 2, 1) + fit(0, 1) + set_group(2, 5, [1, 2])
        for call in everything(3):
            calls.extend(call)
        first = answers(calls)
        self.assertEqual(answers([1]), [1, -1])
        self.assertEqual(answers(calls), first)
        self.assertEqual(answers(load(WEATHER) + counts(0)), [1, 1, 4, 1, 2, 0, 0])


class NoModel(unittest.TestCase):
    OTHERS = [
        shown(), row(), row(0), drop(0), drop(-1), counts(0), counts(-1), fit(0, 1), fit(-1, 0), chances(0),
        chances(7), set_group(0, 0, [1]), set_group(-1, 0, []), even(), likely(), expect(), step(), chance(),
        chance(GAP), post(0), post(-1, 0), fill(), fill(GAP, GAP),
    ]

    def test_all_but_load_are_refused_with_1_before_all_else(self):
        self.assertEqual(run(*self.OTHERS), [[-1]] * len(self.OTHERS))

    def test_a_text_that_is_no_model_brings_none(self):
        self.assertEqual(run(load("table"), *self.OTHERS), [[0, 3, 5]] + [[-1]] * len(self.OTHERS))

    def test_a_refusal_does_not_stand_in_the_way_of_load(self):
        self.assertEqual(run(*self.OTHERS, load(WEATHER), counts(0))[-2:], [[1], [1, 2, 0, 0]])


class Worked(unittest.TestCase):
    def test_the_worked_example(self):
        asked = [
            (load(WEATHER), [1]),
            (counts(2), [6, 2] + [0] * 12),
            (chances(1), [2, 3] + [1, 3] * 6),
            (row(0, 0, 0), [0]),
            (row(1, 2, 1), [1]),
            (row(1, 1, GAP), [2]),
            (row(0, 0, 0), [3]),
            (likely(), [1, 1, 10368]),
            (counts(0), [1, 2, 2, 2]),
            (counts(1), [2, 3, 2, 0, 0, 0, 1, 1]),
            (counts(2), [6, 2, 2, 0, 0, 0, 0, 0, 0, 0, 0, 0, 0, 1]),
            (fit(0, 1), [1]),
            (chances(0), [1, 2, 1, 2, 1, 2]),
            (chances(1), [2, 3, 1, 1, 0, 1, 0, 1, 0, 1, 1, 2, 1, 2]),
            (likely(), [1, 1, 64]),
            (post(0, GAP, 0, 0), [2, 1, 1, 0, 1]),
            (fill(1, GAP, GAP), [1, 1, 4, 1, 2, 1]),
            (expect(), [3] + [1, 2, 2, 1, 2, 1] + [2, 3, 2, 1, 0, 1, 0, 1, 0, 1, 1, 1, 1, 1]
                + [6, 2, 2, 1, 0, 1, 0, 1, 0, 1, 0, 1, 0, 1, 0, 1, 0, 1, 1, 2, 1, 2, 0, 1, 1, 1]),
        ]
        given = run(*[call for call, answer in asked], shown())
        for (call, answer), told in zip(asked, given):
            self.assertEqual(told, answer, call)
        self.assertEqual(form_of(given[-1]), WEATHER)

    def test_the_chances_of_its_rows(self):
        calls = [load(WEATHER), chance(0, 0, 0), chance(1, 2, 1), chance(1, 1, GAP)]
        self.assertEqual(run(*calls)[1:], [[1, 1, 12], [1, 1, 12], [1, 1, 6]])


if __name__ == "__main__":
    unittest.main()
