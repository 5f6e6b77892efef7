"""The promises, over many models and lists of calls."""

import random
import unittest
from fractions import Fraction
from math import gcd

from tests.helper import (
    GAP, GREATEST, chance, chances, counts, even, expect, fill, fit, last, likely, load, post, row, run, set_group, step,
)
from tests.made import Made, expected_tables, fractions, some_calls, some_changes, table


def all_chances(made):
    return [chances(i) for i in range(len(made.kinds))]


def set_all(source, made, least, greatest):
    """Calls that set every group's chances, with weights from least to greatest."""
    calls = []
    for i, values in enumerate(made.kinds):
        for g in range(len(made.groups(i))):
            calls.append(set_group(i, g, [source.randint(least, greatest) for value in values]))
    return calls


def some_chances(source, made, few_rows):
    """Calls behind which the chances are some or other."""
    sort = source.randint(0, 4)
    if sort == 0:
        return [even()]
    if sort == 1:
        return set_all(source, made, 1, GREATEST)
    if sort == 2:
        return set_all(source, made, 0, 3)
    if sort == 3:
        return few_rows + [fit(source.randint(0, 3), source.randint(1, 3))]
    return set_all(source, made, 1, 3) + few_rows + [step()]


def fraction_of(answer):
    """The fraction of an answer of likely or chance."""
    return Fraction(answer[1], answer[2])


def posted(answer):
    return [Fraction(answer[k], answer[k + 1]) for k in range(1, len(answer), 2)]


class Promises(unittest.TestCase):
    def setUp(self):
        self.source = random.Random(20261116)

    def few_rows(self, made, gaps, most=6):
        return [row(*made.row(self.source, gaps)) for j in range(self.source.randint(1, most))]

    def test_1_each_groups_chances_add_up_to_1_and_none_is_below_0(self):
        for k in range(80):
            made = Made(self.source)
            calls = [load(made.text)]
            for call in some_calls(self.source, made, 30):
                calls.append(call)
                calls.extend(all_chances(made))
            for call, answer in zip(calls, run(*calls)):
                if call[0] != 6 or answer[0] < 0:
                    continue
                for group in fractions(answer):
                    self.assertEqual(sum(group), 1)
                    self.assertGreaterEqual(min(group), 0)

    def test_fractions_are_in_lowest_terms(self):
        for k in range(60):
            made = Made(self.source)
            given = made.row(self.source, 0.5)
            calls = [load(made.text)] + some_calls(self.source, made, 30)
            asked = all_chances(made) + [likely(), expect(), chance(*given), fill(*given)]
            asked += [post(i, *given) for i in range(len(made.kinds))]
            many = len(made.kinds)
            answers = run(*calls, *asked)[len(calls):]
            pairs = [number for answer in answers[:many] for number in answer[2:]]
            pairs += answers[many][1:] + answers[many + 2][1:] + answers[many + 3][1:3]
            pairs += [number for answer in answers[many + 4:] for number in answer[1:]]
            if answers[many + 1] != [-6]:
                at = 1
                for i in range(many):
                    end = at + 2 + answers[many + 1][at] * answers[many + 1][at + 1] * 2
                    pairs += answers[many + 1][at + 2:end]
                    at = end
            for above, below in zip(pairs[::2], pairs[1::2], strict=True):
                self.assertEqual(gcd(above, below), 1)
                self.assertGreater(below, 0)

    def test_2_counts_add_up_to_the_rows_without_gaps_there(self):
        for k in range(80):
            made = Made(self.source)
            rows = [made.row(self.source, 0.3) for j in range(self.source.randint(0, 30))]
            calls = [load(made.text)] + [row(*r) for r in rows]
            for i in range(len(made.kinds)):
                given = table(last(*calls, counts(i)), 1)
                needed = [i] + made.parents[i]
                whole = [r for r in rows if all(r[c] != GAP for c in needed)]
                self.assertEqual(sum(sum(group) for group in given), len(whole))
                self.assertEqual(given, made.counts(i, rows))

    def test_2_what_is_expected_adds_up_to_all_rows(self):
        asked = 0
        for k in range(80):
            made = Made(self.source)
            rows = self.few_rows(made, 0.4, 12)
            calls = [load(made.text)] + some_chances(self.source, made, []) + rows
            answer = last(*calls, expect())
            if answer == [-6]:
                self.assertEqual(last(*calls, likely()), [1, 0, 1])
                continue
            asked += 1
            for expected in expected_tables(answer):
                self.assertEqual(sum(sum(group) for group in expected), len(rows))
                self.assertGreaterEqual(min(min(group) for group in expected), 0)
        self.assertGreater(asked, 40)

    def test_fitted_as_the_words_say(self):
        for k in range(80):
            made = Made(self.source)
            rows = [made.row(self.source, 0.3) for j in range(self.source.randint(0, 30))]
            n, d = self.source.choice([(0, 1), (1, 1), (1, 2), (2, 6), (10, 3), (GREATEST, 7), (7, GREATEST)])
            changes = [call for call in some_calls(self.source, made, 10) if call[0] in (5, 7)]
            calls = [load(made.text)] + changes + [row(*r) for r in rows]
            for i in range(len(made.kinds)):
                given = fractions(last(*calls, fit(n, d), chances(i)))
                before = fractions(last(*calls, chances(i)))
                for group, counted in enumerate(made.counts(i, rows)):
                    weights = [count + Fraction(n, d) for count in counted]
                    total = sum(weights)
                    wanted = [weight / total for weight in weights] if total else before[group]
                    self.assertEqual(given[group], wanted)

    def test_3_without_gaps_nothing_beats_counting(self):
        for k in range(60):
            made = Made(self.source)
            rows = self.few_rows(made, 0, 30)
            best = fraction_of(last(load(made.text), *rows, fit(0, 1), likely()))
            self.assertGreater(best, 0)
            for j in range(4):
                others = some_chances(self.source, made, [])
                given = last(load(made.text), *rows, *others, likely())
                self.assertLessEqual(fraction_of(given), best)
            ahead = last(load(made.text), *rows, fit(1, 1), likely())
            self.assertLessEqual(fraction_of(ahead), best)

    def test_3_nor_chances_close_by(self):
        for k in range(40):
            made = Made(self.source, 3)
            rows = self.few_rows(made, 0, 10)
            calls = [load(made.text), *rows, fit(0, 1)]
            best = fraction_of(last(*calls, likely()))
            for i in range(len(made.kinds)):
                for g, group in enumerate(made.counts(i, [r[2:] for r in rows])):
                    for v in range(len(group)):
                        weights = [count * 1000 for count in group]
                        weights[v] += 1
                        given = last(*calls, set_group(i, g, weights), likely())
                        self.assertLessEqual(fraction_of(given), best)

    def test_4_a_step_never_makes_the_data_less_likely(self):
        made_steps = 0
        for k in range(80):
            made = Made(self.source, 4)
            calls = [load(made.text)] + some_chances(self.source, made, []) + self.few_rows(made, 0.4)
            given = run(*calls, *[likely(), step()] * 5, likely())[len(calls):]
            told = [fraction_of(answer) for answer in given[::2]]
            for before, stepped, behind in zip(told, given[1::2], told[1:]):
                if stepped == [1]:
                    made_steps += 1
                    self.assertGreaterEqual(behind, before)
                else:
                    self.assertEqual(behind, before)
        self.assertGreater(made_steps, 100)

    def test_4_without_gaps_one_step_comes_to_counting(self):
        for k in range(60):
            made = Made(self.source)
            calls = [load(made.text)] + set_all(self.source, made, 1, self.source.choice([3, GREATEST]))
            calls += self.few_rows(made, 0, 30)
            asked = all_chances(made)
            counted = run(*calls, fit(0, 1), *asked)[len(calls):]
            self.assertEqual(run(*calls, step(), *asked)[len(calls):], counted)
            self.assertEqual(run(*calls, step(), step(), *asked)[len(calls) + 1:], counted)

    def test_5_a_rows_chance_is_the_sum_over_the_values_in_a_gap(self):
        for k in range(80):
            made = Made(self.source)
            calls = [load(made.text)] + some_chances(self.source, made, self.few_rows(made, 0.3))
            given = made.row(self.source, 0.6)
            whole = fraction_of(last(*calls, chance(*given)))
            for i, value in enumerate(given):
                if value != GAP:
                    continue
                each = [
                    fraction_of(last(*calls, chance(*given[:i], filled, *given[i + 1:]))) for filled in made.kinds[i]]
                self.assertEqual(sum(each), whole)
                answer = last(*calls, post(i, *given))
                if whole == 0:
                    self.assertEqual(answer, [-6])
                else:
                    self.assertEqual(posted(answer), [part / whole for part in each])

    def test_5_what_is_posted_adds_up_to_1(self):
        for k in range(80):
            made = Made(self.source)
            calls = [load(made.text)] + some_chances(self.source, made, self.few_rows(made, 0.3))
            given = made.row(self.source, 0.5)
            for i, values in enumerate(made.kinds):
                answer = last(*calls, post(i, *given))
                if answer != [-6]:
                    self.assertEqual(answer[0], len(values))
                    self.assertEqual(len(posted(answer)), len(values))
                    self.assertEqual(sum(posted(answer)), 1)

    def test_6_chances_of_all_rows_without_gaps_add_up_to_1(self):
        for k in range(40):
            made = Made(self.source, 4)
            calls = [load(made.text)] + some_chances(self.source, made, self.few_rows(made, 0.3))
            wholes = made.fillings([GAP] * len(made.kinds))
            given = []
            for at in range(0, len(wholes), 200):
                asked = [chance(*whole) for whole in wholes[at:at + 200]]
                given += run(*calls, *asked)[len(calls):]
            self.assertEqual(sum(fraction_of(answer) for answer in given), 1)
            if len(wholes) <= 1024:
                self.assertEqual(last(*calls, chance(*[GAP] * len(made.kinds))), [1, 1, 1])

    def test_6_with_something_counted_ahead_no_chance_is_0(self):
        for k in range(60):
            made = Made(self.source)
            calls = [load(made.text)] + some_calls(self.source, made, 20)
            n, d = self.source.choice([(1, 1), (1, GREATEST), (GREATEST, 1), (2, 3)])
            for i in range(len(made.kinds)):
                for group in fractions(last(*calls, fit(n, d), chances(i))):
                    self.assertGreater(min(group), 0)
            self.assertGreater(last(*calls, fit(n, d), chance(*made.row(self.source, 0.2)))[1], 0)

    def test_7_the_order_of_the_rows_does_not_matter(self):
        for k in range(60):
            made = Made(self.source)
            rows = self.few_rows(made, 0.3, 15)
            mixed = self.source.sample(rows, len(rows))
            first = [load(made.text)] + some_chances(self.source, made, [])
            asked = [counts(i) for i in range(len(made.kinds))] + [likely(), expect(), step(), likely()]
            asked += all_chances(made) + [step(), expect()] + all_chances(made)
            asked += [fit(self.source.randint(0, 2), 3), likely()] + all_chances(made)
            self.assertEqual(run(*first, *rows, *asked), run(*first, *mixed, *asked))

    def test_a_refusal_leaves_all_as_it_was(self):
        refused = {}
        for k in range(80):
            made = Made(self.source, 4)
            asked = [asking(i) for i in range(len(made.kinds)) for asking in (counts, chances)] + [likely(), expect()]
            calls = [load(made.text)] + set_all(self.source, made, 1, self.source.choice([3, GREATEST]))
            calls += self.few_rows(made, 0.4)
            for call in [step()] + [some_changes(self.source, made) for j in range(20)]:
                before = run(*calls, *asked)[len(calls):]
                calls.append(call)
                given = run(*calls, *asked)[len(calls) - 1:]
                if given[0][0] < 0:
                    refused[given[0][0]] = refused.get(given[0][0], 0) + 1
                    self.assertEqual(given[1:], before)
        for refusal in (-2, -3, -6, -9):
            self.assertGreater(refused[refusal], 10, refusal)

    def test_questions_change_nothing(self):
        for k in range(40):
            made = Made(self.source, 4)
            given = made.row(self.source, 0.5)
            calls = [load(made.text)] + some_calls(self.source, made, 20)
            asked = [likely(), expect(), chance(*given), post(0, *given), fill(*given), chance(), fill(), post(9)]
            asked += all_chances(made) + [counts(i) for i in range(len(made.kinds))]
            answers = run(*calls, *asked, *asked)[len(calls):]
            self.assertEqual(answers[:len(asked)], answers[len(asked):])


if __name__ == "__main__":
    unittest.main()
