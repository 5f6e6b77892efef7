"""Lists of calls of all sorts, made by chance: each answer is the one reckoned straight from the words."""

import random
import unittest

from tests.helper import GAP, GREATEST, chance, expect, fill, likely, load, post, row, run, set_group, step
from tests.made import Made, Twin, some_calls


class Twins(unittest.TestCase):
    def setUp(self):
        self.source = random.Random(20261117)
        self.seen = {}

    def compare(self, made, calls):
        twin = Twin(made)
        given = run(load(made.text), *calls)
        self.assertEqual(given[0], [1])
        for call, answer in zip(calls, given[1:], strict=True):
            self.assertEqual(answer, twin.answer(call), (made.text, calls))
            key = (call[0], min(answer[0], 0))
            self.seen[key] = self.seen.get(key, 0) + 1

    def test_calls_of_all_sorts(self):
        for k in range(250):
            made = Made(self.source, 4)
            self.compare(made, some_calls(self.source, made, 40))
        wanted = [(call, 0) for call in range(2, 15)] + [(0, 0)]
        wanted += [(2, -3), (3, -2), (4, -2), (5, -3), (6, -2), (7, -2), (7, -3), (10, -6), (11, -6), (11, -9)]
        wanted += [(12, -3), (13, -2), (13, -3), (13, -6), (14, -3)]
        for key in wanted:
            self.assertGreater(self.seen.get(key, 0), 10, key)

    def test_great_weights_and_many_gaps(self):
        for k in range(25):
            made = Made(self.source, 5)
            calls = []
            for i in range(len(made.kinds)):
                for g in range(len(made.groups(i))):
                    weights = [self.source.randint(0, GREATEST) for value in made.kinds[i]]
                    calls.append(set_group(i, g, weights))
            calls = self.source.sample(calls, min(len(calls), 40))
            calls += [row(*made.row(self.source, 0.4)) for j in range(6)]
            given = made.row(self.source, 0.8)
            calls += [likely(), expect(), chance(*given), fill(*given), step(), likely(), expect()]
            calls += [post(i, *given) for i in range(len(made.kinds))]
            calls += [fill(*[GAP] * len(made.kinds)), step(), step(), likely()]
            self.compare(made, calls)

    def test_steps_one_behind_another(self):
        for k in range(25):
            made = Made(self.source, 3)
            calls = [row(*made.row(self.source, 0.4)) for j in range(self.source.randint(1, 5))]
            calls += [step(), expect(), likely()] * 12
            self.compare(made, calls)
        self.assertGreater(self.seen[(11, 0)], 100)


if __name__ == "__main__":
    unittest.main()
