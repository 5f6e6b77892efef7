"""Models and calls made by chance, and their answers reckoned straight from the words, by Python's own fractions."""

from fractions import Fraction
from itertools import product

from tests.helper import (
    GAP, GREATEST, chance, chances, counts, drop, even, expect, fill, fit, likely, load, post, row, set_group, step,
)


class Made:
    """A model made by chance: for each column its values and its parents."""

    def __init__(self, source, most=6):
        self.kinds = []
        self.parents = []
        for i in range(source.randint(1, most)):
            low = source.randint(-5, 5)
            flag = source.random() < 0.4
            self.kinds.append([0, 1] if flag else list(range(low, low + source.randint(1, 4))))
            self.parents.append(source.sample(range(i), source.randint(0, min(i, 3))))
        self.text = "table T "
        for i, values in enumerate(self.kinds):
            kind = "flag" if values == [0, 1] else f"num {values[0]} {values[-1]}"
            behind = " | " + ", ".join(f"c{p}" for p in self.parents[i]) if self.parents[i] else ""
            self.text += f"c{i} {kind}{behind} ;"

    def groups(self, i):
        return list(product(*[self.kinds[p] for p in self.parents[i]]))

    def group_of(self, i, whole):
        return tuple(whole[p] for p in self.parents[i])

    def row(self, source, gaps):
        """A row with at most 1024 fillings, each value a gap with the chance that is told."""
        while True:
            made = [GAP if source.random() < gaps else source.choice(values) for values in self.kinds]
            if self.how_many_fillings(made) <= 1024:
                return made

    def how_many_fillings(self, given):
        many = 1
        for value, values in zip(given, self.kinds):
            many *= len(values) if value == GAP else 1
        return many

    def fillings(self, given):
        return list(product(*[values if value == GAP else [value] for value, values in zip(given, self.kinds)]))

    def counts(self, i, rows):
        """By their definition: group by group, the rows with that value and those values."""
        return [
            [sum(1 for r in rows if r[i] == value and self.group_of(i, r) == group)
             for value in self.kinds[i]] for group in self.groups(i)]


class Twin:
    """What the object holds, and the answers it must give, for a model that is held already."""

    def __init__(self, made):
        self.made = made
        self.columns = range(len(made.kinds))
        self.rows = []
        self.chances = self.at_first()

    def at_first(self):
        made = self.made
        return [
            {group: [Fraction(1, len(made.kinds[i]))] * len(made.kinds[i]) for group in made.groups(i)}
            for i in self.columns]

    def chance_of_whole(self, whole):
        found = Fraction(1)
        for i in self.columns:
            found *= self.chances[i][self.made.group_of(i, whole)][self.made.kinds[i].index(whole[i])]
        return found

    def chance_of(self, given):
        return sum(self.chance_of_whole(whole) for whole in self.made.fillings(given))

    def likely(self):
        found = Fraction(1)
        for given in self.rows:
            found *= self.chance_of(given)
        return found

    def expected(self):
        """For each column, by group, the list of what is expected for each value; None if a row has the chance 0."""
        made = self.made
        found = [{group: [Fraction(0)] * len(made.kinds[i]) for group in made.groups(i)} for i in self.columns]
        for given in self.rows:
            total = self.chance_of(given)
            if total == 0:
                return None
            for whole in made.fillings(given):
                part = self.chance_of_whole(whole) / total
                for i in self.columns:
                    found[i][made.group_of(i, whole)][made.kinds[i].index(whole[i])] += part
        return found

    def become(self, weights):
        """The chances that the weights become, and those before where their sum is 0."""
        found = []
        for i in self.columns:
            found.append({})
            for group, those in weights[i].items():
                total = sum(those)
                found[i][group] = [weight / total for weight in those] if total else self.chances[i][group]
        return found

    def row_refusal(self, given):
        if len(given) != len(self.made.kinds):
            return -3
        if any(value != GAP and value not in values for value, values in zip(given, self.made.kinds)):
            return -3
        return -8 if self.made.how_many_fillings(given) > 1024 else 0

    def answer(self, call):
        """The answer to a call that is written as the helper writes it."""
        return {
            2: self.row, 3: self.drop, 4: self.counts, 5: self.fit, 6: self.told_chances, 7: self.set_group,
            8: self.even, 9: self.told_likely, 10: self.expect, 11: self.step, 12: self.chance, 13: self.post,
            14: self.fill, 0: lambda length, *text: [0, 3, length]}[call[0]](*call[1:])

    def row(self, length, *given):
        refusal = self.row_refusal(given)
        if refusal or len(self.rows) == 100:
            return [refusal or -4]
        self.rows.append(given)
        return [len(self.rows) - 1]

    def drop(self, k):
        if k not in range(len(self.rows)):
            return [-2]
        self.rows = self.rows[:k] + self.rows[k + 1:]
        return [len(self.rows)]

    def counts(self, i):
        if i not in self.columns:
            return [-2]
        found = self.made.counts(i, self.rows)
        return [len(found), len(found[0])] + [number for group in found for number in group]

    def fit(self, n, d):
        if n < 0 or d < 1:
            return [-3]
        self.chances = self.become([
            {group: [count + Fraction(n, d) for count in counted]
             for group, counted in zip(self.made.groups(i), self.made.counts(i, self.rows))} for i in self.columns])
        return [1]

    def told_chances(self, i):
        return told_table(self.chances[i]) if i in self.columns else [-2]

    def set_group(self, i, g, length, *weights):
        if i not in self.columns or g not in range(len(self.chances[i])):
            return [-2]
        group = self.made.groups(i)[g]
        if len(weights) != len(self.made.kinds[i]) or min(weights) < 0 or sum(weights) == 0:
            return [-3]
        self.chances[i] = {**self.chances[i], group: [Fraction(weight, sum(weights)) for weight in weights]}
        return [1]

    def even(self):
        self.chances = self.at_first()
        return [1]

    def told_likely(self):
        return [1] + told(self.likely())

    def expect(self):
        found = self.expected()
        if found is None:
            return [-6]
        return [len(found)] + [number for table in found for number in told_table(table)]

    def step(self):
        found = self.expected()
        if found is None:
            return [-6]
        behind = self.become(found)
        for table in behind:
            for group in table.values():
                if any(max(told(fraction)) > 10 ** 40 for fraction in group):
                    return [-9]
        self.chances = behind
        return [1]

    def chance(self, length, *given):
        refusal = self.row_refusal(given)
        return [refusal] if refusal else [1] + told(self.chance_of(given))

    def post(self, i, length, *given):
        if i not in self.columns:
            return [-2]
        refusal = self.row_refusal(given)
        if refusal:
            return [refusal]
        total = self.chance_of(given)
        if total == 0:
            return [-6]
        answer = [len(self.made.kinds[i])]
        for value in self.made.kinds[i]:
            those = [whole for whole in self.made.fillings(given) if whole[i] == value]
            answer += told(sum(self.chance_of_whole(whole) for whole in those) / total)
        return answer

    def fill(self, length, *given):
        refusal = self.row_refusal(given)
        if refusal:
            return [refusal]
        fillings = self.made.fillings(given)
        greatest = max(self.chance_of_whole(whole) for whole in fillings)
        best = [whole for whole in fillings if self.chance_of_whole(whole) == greatest]
        return [len(best)] + told(greatest) + list(min(best))


def told(fraction):
    fraction = Fraction(fraction)
    return [fraction.numerator, fraction.denominator]


def told_table(table):
    """How many groups and values, then the fractions, group by group."""
    groups = list(table.values())
    return [len(groups), len(groups[0])] + [n for group in groups for fraction in group for n in told(fraction)]


def table(answer, width):
    """The groups of an answer of counts or chances, with width numbers for each value."""
    groups, size = answer[0], answer[1]
    if len(answer) != 2 + groups * size * width:
        raise ValueError("the answer has another length than it tells")
    return [answer[2 + g * size * width:2 + (g + 1) * size * width] for g in range(groups)]


def fractions(answer):
    """The groups of an answer of chances."""
    return [[Fraction(group[k], group[k + 1]) for k in range(0, len(group), 2)] for group in table(answer, 2)]


def expected_tables(answer):
    """The tables of an answer of expect."""
    found = []
    at = 1
    for i in range(answer[0]):
        end = at + 2 + answer[at] * answer[at + 1] * 2
        found.append(fractions(answer[at:end]))
        at = end
    if at != len(answer):
        raise ValueError("the answer has another length than it tells")
    return found


def some_changes(source, made):
    """A call that may change what is held, or be refused."""
    i = source.randint(-1, len(made.kinds))
    size = len(made.kinds[i]) if 0 <= i < len(made.kinds) else 2
    return source.choice([
        row(*made.row(source, 0.2)), row(*made.row(source, 0.2)), row(*made.row(source, 0))[:-1] + [77],
        drop(source.randint(-1, 5)), fit(0, 1), fit(source.randint(-1, 3), source.randint(0, 3)),
        fit(source.randint(0, GREATEST), source.randint(1, GREATEST)),
        set_group(i, source.randint(-1, 4), [source.randint(-1, 3) for j in range(size)]),
        set_group(i, 0, [source.randint(-1, GREATEST) for j in range(size)]), load("table"),
        even(), step(), step()])


def some_questions(source, made):
    """A call that changes nothing, and may be refused."""
    i = source.randint(-1, len(made.kinds))
    given = source.choice([made.row(source, 0.5), made.row(source, 0), [GAP] * len(made.kinds)])
    wrong = source.choice([given[1:], given + [GAP], given[:-1] + [77]])
    return source.choice([
        counts(i), chances(i), likely(), expect(), chance(*given), chance(*wrong), post(i, *given), post(i, *given),
        post(i, *wrong), fill(*given), fill(*given), fill(*wrong)])


def some_calls(source, made, many):
    """Calls of all sorts, also such as are refused."""
    return [source.choice([some_changes, some_changes, some_questions])(source, made) for k in range(many)]
