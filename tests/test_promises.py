"""The promises, over many models and lists of calls; what is asked for is reckoned straight from the words."""

import random
import unittest
from fractions import Fraction
from itertools import product
from math import gcd

from tests.helper import GAP, GREATEST, chances, counts, drop, fit, last, load, row, run, set_group


class Made:
    """A model made by chance: for each column its values and its parents."""

    def __init__(self, source):
        self.kinds = []
        self.parents = []
        for i in range(source.randint(1, 6)):
            low = source.randint(-5, 5)
            flag = source.random() < 0.4
            self.kinds.append([0, 1] if flag else list(range(low, low + source.randint(1, 4))))
            self.parents.append(source.sample(range(i), source.randint(0, min(i, 3))))
        self.text = "table T "
        for i, values in enumerate(self.kinds):
            kind = "flag" if values == [0, 1] else f"num {values[0]} {values[-1]}"
            behind = " | " + ", ".join(f"c{p}" for p in self.parents[i]) if self.parents[i] else ""
            self.text += f"c{i} {kind}{behind} ;"

    def groups(self, i):
        return list(product(*[self.kinds[p] for p in self.parents[i]]))

    def row(self, source, gaps):
        return [GAP if source.random() < gaps else source.choice(values) for values in self.kinds]

    def counts(self, i, rows):
        """By their definition: group by group, the rows with that value and those values."""
        return [
            [sum(1 for r in rows if r[i] == value and tuple(r[p] for p in self.parents[i]) == group)
             for value in self.kinds[i]] for group in self.groups(i)]


def table(answer, width):
    """The groups of an answer of counts or chances, with width numbers for each value."""
    groups, size = answer[0], answer[1]
    if len(answer) != 2 + groups * size * width:
        raise ValueError("the answer has another length than it tells")
    return [answer[2 + g * size * width:2 + (g + 1) * size * width] for g in range(groups)]


def fractions(answer):
    """The groups of an answer of chances."""
    return [[Fraction(group[k], group[k + 1]) for k in range(0, len(group), 2)] for group in table(answer, 2)]


def some_calls(source, made, many):
    """Calls of all sorts, also such as are refused."""
    calls = []
    for k in range(many):
        i = source.randint(-1, len(made.kinds))
        size = len(made.kinds[i]) if 0 <= i < len(made.kinds) else 2
        calls.append(source.choice([
            row(*made.row(source, 0.2)), row(*made.row(source, 0.2)), row(*made.row(source, 0))[:-1] + [77],
            drop(source.randint(-1, 5)), fit(0, 1), fit(source.randint(-1, 3), source.randint(0, 3)),
            fit(source.randint(0, GREATEST), source.randint(1, GREATEST)),
            set_group(i, source.randint(-1, 4), [source.randint(0, 3) for j in range(size)]),
            set_group(i, 0, [source.randint(-1, GREATEST) for j in range(size)]), load("table"), counts(0)]))
    return calls


class Promises(unittest.TestCase):
    def setUp(self):
        self.source = random.Random(20261116)

    def test_1_each_groups_chances_add_up_to_1_and_none_is_below_0(self):
        for k in range(80):
            made = Made(self.source)
            calls = [load(made.text)]
            for call in some_calls(self.source, made, 30):
                calls.append(call)
                calls.extend(chances(i) for i in range(len(made.kinds)))
            for call, answer in zip(calls, run(*calls)):
                if call[0] != 6:
                    continue
                for group in fractions(answer):
                    self.assertEqual(sum(group), 1)
                    self.assertGreaterEqual(min(group), 0)

    def test_chances_are_in_lowest_terms(self):
        for k in range(40):
            made = Made(self.source)
            calls = [load(made.text)] + some_calls(self.source, made, 30)
            for i in range(len(made.kinds)):
                for group in table(last(*calls, chances(i)), 2):
                    for above, below in zip(group[::2], group[1::2]):
                        self.assertEqual(gcd(above, below), 1)
                        self.assertGreater(below, 0)

    def test_2_counts_add_up_to_the_rows_without_gaps_there(self):
        for k in range(80):
            made = Made(self.source)
            rows = [made.row(self.source, 0.3) for j in range(self.source.randint(0, 30))]
            calls = [load(made.text)] + [row(*r) for r in rows]
            for i in range(len(made.kinds)):
                given = table(last(*calls, counts(i)), 1)
                needed = [i] + made.parents[i]
                whole = [r for r in rows if all(r[c] != GAP for c in needed)]
                self.assertEqual(sum(sum(group) for group in given), len(whole))
                self.assertEqual(given, made.counts(i, rows))

    def test_fitted_as_the_words_say(self):
        for k in range(80):
            made = Made(self.source)
            rows = [made.row(self.source, 0.3) for j in range(self.source.randint(0, 30))]
            n, d = self.source.choice([(0, 1), (1, 1), (1, 2), (2, 6), (10, 3), (GREATEST, 7), (7, GREATEST)])
            changes = [call for call in some_calls(self.source, made, 10) if call[0] in (5, 7)]
            calls = [load(made.text)] + changes + [row(*r) for r in rows]
            for i in range(len(made.kinds)):
                given = fractions(last(*calls, fit(n, d), chances(i)))
                before = fractions(last(*calls, chances(i)))
                for group, counted in enumerate(made.counts(i, rows)):
                    weights = [count + Fraction(n, d) for count in counted]
                    total = sum(weights)
                    wanted = [weight / total for weight in weights] if total else before[group]
                    self.assertEqual(given[group], wanted)

    def test_6_with_something_counted_ahead_no_chance_is_0(self):
        for k in range(60):
            made = Made(self.source)
            calls = [load(made.text)] + some_calls(self.source, made, 20)
            n, d = self.source.choice([(1, 1), (1, GREATEST), (GREATEST, 1), (2, 3)])
            for i in range(len(made.kinds)):
                for group in fractions(last(*calls, fit(n, d), chances(i))):
                    self.assertGreater(min(group), 0)

    def test_7_the_order_of_the_rows_does_not_matter(self):
        for k in range(60):
            made = Made(self.source)
            rows = [row(*made.row(self.source, 0.3)) for j in range(self.source.randint(2, 30))]
            mixed = self.source.sample(rows, len(rows))
            asked = [counts(i) for i in range(len(made.kinds))] + [fit(self.source.randint(0, 2), 3)]
            asked += [chances(i) for i in range(len(made.kinds))]
            self.assertEqual(run(load(made.text), *rows, *asked), run(load(made.text), *mixed, *asked))

    def test_a_refusal_leaves_all_as_it_was(self):
        refused = 0
        for k in range(60):
            made = Made(self.source)
            asked = [asking(i) for i in range(len(made.kinds)) for asking in (counts, chances)]
            calls = [load(made.text)]
            for call in some_calls(self.source, made, 15):
                before = run(*calls, *asked)[len(calls):]
                calls.append(call)
                given = run(*calls, *asked)[len(calls) - 1:]
                if given[0][0] < 0:
                    refused += 1
                    self.assertEqual(given[1:], before)
        self.assertGreater(refused, 100)


if __name__ == "__main__":
    unittest.main()
