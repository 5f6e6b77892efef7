"""The interface: how calls stand in the list, how answers stand in what is given back, the worked example."""

import unittest

from countedchances.model import answers
from tests.helper import (
    GAP, WEATHER, chances, counts, drop, everything, fit, form_of, load, row, run, set_group, shown,
)

WEATHER_BYTES = [ord(sign) for sign in WEATHER]


class TheList(unittest.TestCase):
    def test_each_answer_has_its_length_ahead(self):
        calls = [0, len(WEATHER_BYTES)] + WEATHER_BYTES + [2, 3, 1, 2, 1, 4, 0, 6, 0, 3, 0, 3, 0]
        self.assertEqual(
            answers(calls),
            [1, 1] + [1, 0] + [4, 1, 2, 0, 1] + [6, 1, 2, 1, 2, 1, 2] + [1, 0] + [1, -2])

    def test_the_number_of_each_call(self):
        calls = [0, len(WEATHER_BYTES)] + WEATHER_BYTES
        self.assertEqual(answers(calls), [1, 1])
        self.assertEqual(answers(calls + [1]), [1, 1, 75, 74] + WEATHER_BYTES)
        self.assertEqual(answers(calls + [2, 3, 0, 0, 0]), [1, 1, 1, 0])
        self.assertEqual(answers(calls + [2, 3, 0, 0, 0, 3, 0]), [1, 1, 1, 0, 1, 0])
        self.assertEqual(answers(calls + [4, 0]), [1, 1, 4, 1, 2, 0, 0])
        self.assertEqual(answers(calls + [5, 0, 1]), [1, 1, 1, 1])
        self.assertEqual(answers(calls + [6, 0]), [1, 1, 6, 1, 2, 1, 2, 1, 2])
        self.assertEqual(answers(calls + [7, 0, 0, 2, 1, 3, 6, 0]), [1, 1, 1, 1, 6, 1, 2, 1, 4, 3, 4])

    def test_a_fault_has_three_numbers(self):
        self.assertEqual(answers([0, 0]), [3, 0, 3, 0])
        self.assertEqual(answers([0, 1, 33]), [3, 0, 2, 0])

    def test_empty_lists(self):
        calls = [0, len(WEATHER_BYTES)] + WEATHER_BYTES
        self.assertEqual(answers(calls + [2, 0, 7, 0, 0, 0]), [1, 1, 1, -3, 1, -3])

    def test_long_lists(self):
        calls = [0, len(WEATHER_BYTES)] + WEATHER_BYTES
        self.assertEqual(
            answers(calls + [2, 2000] + [0] * 2000 + [7, 0, 0, 2000] + [1] * 2000), [1, 1, 1, -3, 1, -3])

    def test_400_calls(self):
        self.assertEqual(answers([1] * 400), [1, -1] * 400)

    def test_whole_numbers_alone(self):
        calls = [load(WEATHER), row(0, 0, GAP), fit(1, 2), set_group(0, 0, [1, 1])] + everything(3)
        for answer in run(*calls):
            for number in answer:
                self.assertIs(type(number), int)

    def test_what_is_handed_in_stays_as_it_is(self):
        calls = load(WEATHER)
        for call in [row(0, 0, 0), row(1, 1, GAP), fit(1, 3), set_group(0, 0, [2, 6]), drop(0)] + everything(3):
            calls.extend(call)
        before = list(calls)
        given = answers(calls)
        self.assertEqual(calls, before)
        given.append(0)
        self.assertEqual(calls, before)

    def test_nothing_is_kept_from_one_time_to_the_next(self):
        calls = load(WEATHER) + row(1, 2, 1) + fit(0, 1) + set_group(2, 5, [1, 2])
        for call in everything(3):
            calls.extend(call)
        first = answers(calls)
        self.assertEqual(answers([1]), [1, -1])
        self.assertEqual(answers(calls), first)
        self.assertEqual(answers(load(WEATHER) + counts(0)), [1, 1, 4, 1, 2, 0, 0])


class NoModel(unittest.TestCase):
    OTHERS = [
        shown(), row(), row(0), drop(0), drop(-1), counts(0), counts(-1), fit(0, 1), fit(-1, 0), chances(0),
        chances(7), set_group(0, 0, [1]), set_group(-1, 0, []),
    ]

    def test_all_but_load_are_refused_with_1_before_all_else(self):
        self.assertEqual(run(*self.OTHERS), [[-1]] * len(self.OTHERS))

    def test_a_text_that_is_no_model_brings_none(self):
        self.assertEqual(run(load("table"), *self.OTHERS), [[0, 3, 5]] + [[-1]] * len(self.OTHERS))

    def test_a_refusal_does_not_stand_in_the_way_of_load(self):
        self.assertEqual(run(*self.OTHERS, load(WEATHER), counts(0))[-2:], [[1], [1, 2, 0, 0]])


class Worked(unittest.TestCase):
    def test_the_worked_example(self):
        given = run(
            load(WEATHER), counts(2), chances(1),
            row(0, 0, 0), row(1, 2, 1), row(1, 1, GAP), row(0, 0, 0),
            counts(0), counts(1), counts(2), fit(0, 1), chances(0), chances(1), shown())
        self.assertEqual(given[:-1], [
            [1], [6, 2] + [0] * 12, [2, 3] + [1, 3] * 6,
            [0], [1], [2], [3],
            [1, 2, 2, 2], [2, 3, 2, 0, 0, 0, 1, 1], [6, 2, 2, 0, 0, 0, 0, 0, 0, 0, 0, 0, 0, 1],
            [1], [1, 2, 1, 2, 1, 2], [2, 3, 1, 1, 0, 1, 0, 1, 0, 1, 1, 2, 1, 2]])
        self.assertEqual(form_of(given[-1]), WEATHER)


if __name__ == "__main__":
    unittest.main()
