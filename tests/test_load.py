"""load and shown: the grammar, the faults with their places and their order, the one form."""

import unittest

from tests.helper import (
    GAP, WEATHER, chance, chances, counts, even, everything, expect, fill, fit, form_of, last, likely, load, post, row,
    run, set_group, shown, step,
)

LONG = "Abcdefghijklmno"


def fault(text):
    return last(load(text))


def marked(text):
    """The fault of the text without its mark ^, and the place where the mark stood."""
    return fault(text.replace("^", "")), text.index("^")


class Marked(unittest.TestCase):
    def assert_fault(self, code, text):
        given, place = marked(text)
        self.assertEqual(given, [0, code, place], text)


class Grammar(Marked):
    def test_fault_3_at_the_first_token_not_allowed(self):
        for text in (
                "^T c flag ;", "^name T c flag ;", "^12 T", "^; table T c flag ;", "^flag",
                "table ^table c flag ;", "table ^1 c flag ;", "table ^; c flag ;",
                "table T ^; c flag ;", "table T ^flag ;", "table T ^1 flag ;", "table T ^| c flag ;",
                "table T c ^c ;", "table T c ^; ;", "table T c ^1 ;", "table T c ^true ;", "table T c ^table ;",
                "table T c num ^; ;", "table T c num ^a 1 ;", "table T c num 0 ^; ;", "table T c num 0 ^/ 1 ;",
                "table T c num 0 ^num ;", "table T c num 0 1 ^1 ;", "table T c flag ^d flag ;",
                "table T c flag ^flag ;", "table T c flag ^, ;", "table T c flag ^0 1 ;",
                "table T c flag ; d flag | ^; ;", "table T c flag ; d flag | ^, c ;", "table T c flag ; d flag | ^| c ;",
                "table T c flag ; d flag | c ^c ;", "table T c flag ; d flag | c , ^; ;",
                "table T c flag ; d flag | c , ^, c ;", "table T c flag ; d flag | ^1 ;",
                "table T c flag ; d flag | c ^| c ;", "table T c flag ; ^;", "table T c flag ; ^table", "table T c flag ; ^1"):
            self.assert_fault(3, text)

    def test_fault_3_at_the_end_of_the_text(self):
        for text in (
                "^", "  ^", "# table\n ^", "table^", "table ^", "table T^", "table T # c\n ^", "table T c^", "table T c num^",
                "table T c num 0^", "table T c num 0 1^", "table T c flag^", "table T c flag \n^", "table T c flag |^",
                "table T c flag | b^", "table T c flag | b ,^", "table T c flag ; d^", "table T c flag ; d flag # ;^"):
            self.assert_fault(3, text)

    def test_fault_4_at_the_seventh_column(self):
        six = "table T a flag ; b flag ; c flag ; d flag ; e flag ; f flag ; "
        self.assertEqual(fault(six), [1])
        self.assert_fault(4, six + "^g flag ;")
        self.assert_fault(4, six + "^a")
        self.assert_fault(4, six + "^g num 5 1 ;")
        self.assert_fault(4, six + "^g ; ; h flag ;")
        self.assert_fault(3, six + "^; g flag ;")
        self.assert_fault(3, six + "^flag")
        self.assert_fault(3, six + "^7")

    def test_fault_4_at_the_fourth_parent(self):
        four = "table T a flag ; b flag ; c flag ; d flag ; "
        self.assertEqual(fault(four + "e flag | a , b , c ;"), [1])
        self.assert_fault(4, four + "e flag | a , b , c , ^d ;")
        self.assert_fault(4, four + "e flag | a , b , c , ^d")
        self.assert_fault(4, four + "e flag | a , a , a , ^a ;")
        self.assert_fault(4, four + "e flag | x , y , z , ^w , v ;")
        self.assert_fault(3, four + "e flag | a , b , c , ^; ;")
        self.assert_fault(3, four + "e flag | a , b , c , ^flag ;")
        self.assert_fault(3, four + "e flag | a , b , c ,^")
        self.assert_fault(3, four + "e flag | a , b , c ^d ;")

    def test_one_to_six_columns(self):
        self.assert_fault(3, "table T^")
        for many in range(1, 7):
            self.assertEqual(fault("table T " + "".join(f"c{k} flag ;" for k in range(many))), [1])

    def test_one_to_three_parents(self):
        self.assertEqual(fault("table T a flag ; b flag | a ; c flag | b , a ; d flag | c , a , b ;"), [1])


class Bounds(Marked):
    def test_bounds_at_their_edges(self):
        for bounds in ("-1000 -1000", "1000 1000", "-1000 -937", "937 1000", "0 63", "-31 32", "0 0", "-5 -5"):
            self.assertEqual(fault(f"table T c num {bounds} ;"), [1], bounds)

    def test_fault_7_at_the_lower_bound(self):
        for bounds in (
                "^-1001 -1000", "^1001 1001", "^-1001 0", "^1001 0", "^-1000000000 1000000000", "^5000 5000",
                "^-1001 -2000"):
            self.assert_fault(7, f"table T c num {bounds} ;")

    def test_fault_7_at_the_upper_bound(self):
        for bounds in (
                "0 ^-1", "1000 ^1001", "-1000 ^-1001", "0 ^64", "-1000 ^-936", "-32 ^32", "938 ^1001", "1 ^0",
                "-1000 ^1000", "1000 ^999", "990 ^1001", "0 ^1000000000", "0 ^-1000000000"):
            self.assert_fault(7, f"table T c num {bounds} ;")

    def test_both_bounds_are_read_before_they_are_looked_at(self):
        self.assert_fault(3, "table T c num 5000 ^;")
        self.assert_fault(3, "table T c num 5000 ^flag ;")
        self.assert_fault(3, "table T c num 5000^")
        self.assert_fault(7, "table T c num ^5000 0")
        self.assert_fault(7, "table T c num 5 ^0 5 ;")

    def test_from_left_to_right(self):
        self.assert_fault(7, "table T c num 1 ^0 ; d num 1001 0 ;")
        self.assert_fault(7, "table T c num 1 ^0 | ; ;")
        self.assert_fault(7, "table T c num 1 ^0 ; ;")
        self.assert_fault(3, "table T c flag ^c ; d num 1 0 ;")
        self.assert_fault(4, "table T c flag | x , y , z , ^w ; d num 1 0 ;")
        self.assert_fault(7, "table T c num 1 ^0 | x , y , z , w ;")


class Names(Marked):
    def test_fault_5_at_a_name_that_an_earlier_column_has(self):
        self.assert_fault(5, "table T c flag ; ^c num 0 1 ;")
        self.assert_fault(5, "table T c flag ; d flag ; ^c flag ;")
        self.assert_fault(5, "table T c flag ; d flag ; ^d flag ; c flag ;")

    def test_fault_6_at_a_parent_that_no_earlier_column_has(self):
        self.assert_fault(6, "table T c flag | ^d ; d flag ;")
        self.assert_fault(6, "table T c flag | ^c ;")
        self.assert_fault(6, "table T c flag | ^T ;")
        self.assert_fault(6, "table T c flag ; d flag | c , ^C ;")
        self.assert_fault(6, "table T c flag ; d flag | c , ^d ; e flag ;")
        self.assert_fault(6, "table T c flag ; d flag | ^cc , c ;")

    def test_fault_5_at_a_parent_twice(self):
        self.assert_fault(5, "table T c flag ; d flag | c , ^c ;")
        self.assert_fault(5, "table T c flag ; d flag ; e flag | c , d , ^c ;")

    def test_parents_in_order(self):
        self.assert_fault(6, "table T c flag ; d flag | ^x , c , c ;")
        self.assert_fault(5, "table T c flag ; d flag | c , ^c , x ;")
        self.assert_fault(6, "table T c flag ; d flag | c , ^x , x ;")

    def test_the_name_before_the_parents(self):
        self.assert_fault(5, "table T c flag ; ^c flag | x ;")

    def test_column_by_column(self):
        self.assert_fault(6, "table T a flag ; b flag | ^x ; a flag ;")
        self.assert_fault(5, "table T a flag ; ^a flag ; b flag | x ;")

    def test_grammar_and_bounds_before_names(self):
        self.assert_fault(3, "table T c flag ; c flag ; d ^;")
        self.assert_fault(7, "table T c flag ; c flag | x ; d num 1 ^0 ;")
        self.assert_fault(4, "table T c flag ; c flag | x , x , x , ^x ;")


class Cells(Marked):
    def test_512_cells(self):
        self.assertEqual(fault("table T a num 0 7 ; b num 0 63 | a ;"), [1])
        self.assertEqual(fault("table T a num 0 15 ; b num 0 15 ; c flag | a , b ;"), [1])
        self.assertEqual(fault("table T a num 0 7 ; b num 0 7 ; c num 0 3 ; d flag | a , b , c ;"), [1])
        self.assertEqual(fault("table T a num 1 10 ; b num 0 50 | a ;"), [1])

    def test_fault_12_at_the_name(self):
        self.assert_fault(12, "table T a num 0 8 ; ^b num 0 63 | a ;")
        self.assert_fault(12, "table T a num 0 18 ; ^b num -13 13 | a ;")
        self.assert_fault(12, "table T a num 0 15 ; b num 0 16 ; ^c flag | a , b ;")
        self.assert_fault(12, "table T a num 0 7 ; b num 0 7 ; c num 0 3 ; ^d num 0 2 | a , b , c ;")

    def test_513_cells(self):
        self.assert_fault(12, "table T a num 0 18 ; b num 0 8 ; ^c num 0 2 | a , b ;")

    def test_behind_the_faults_of_its_names(self):
        wide = "table T a num 0 63 ; "
        self.assert_fault(5, wide + "b num 0 63 | a , ^a ;")
        self.assert_fault(6, wide + "b num 0 63 | a , ^x ;")
        self.assert_fault(5, wide + "^a num 0 63 | a ;")

    def test_before_the_faults_of_later_columns(self):
        wide = "table T a num 0 63 ; "
        self.assert_fault(12, wide + "^b num 0 63 | a ; b flag ;")
        self.assert_fault(12, wide + "^b num 0 63 | a ; c flag | x ;")
        self.assert_fault(5, wide + "^a flag ; b num 0 63 | a ;")
        self.assert_fault(7, wide + "b num 0 63 | a ; c num 1 ^0 ;")


class OneForm(unittest.TestCase):
    def form(self, text):
        return form_of(last(load(text), shown()))

    def test_the_one_form_of_the_model_in_the_document(self):
        self.assertEqual(self.form(WEATHER), WEATHER)

    def test_blanks_and_remarks_are_gone(self):
        self.assertEqual(
            self.form("# a\n\ttable  Weather\nrain flag;drops num 0 2|rain;# b\nwet flag|rain,drops;# c"), WEATHER)

    def test_numbers_below_0(self):
        self.assertEqual(self.form("table T c num -3 -1 ; d num -1 0 | c ;"), "table T\nc num -3 -1 ;\nd num -1 0 | c ;\n")

    def test_parents_stand_as_written(self):
        self.assertEqual(
            self.form("table T a flag ; b flag ; c flag ; d flag | c,a,b ;"),
            "table T\na flag ;\nb flag ;\nc flag ;\nd flag | c, a, b ;\n")

    def test_the_one_form_is_a_model_with_this_one_form(self):
        form = self.form("table T a num -1000 -990;b num 990 1000|a;c flag;d flag|c,a;")
        self.assertEqual(self.form(form), form)

    def test_no_text_can_have_fault_10(self):
        # The longest name, the longest bounds and as many columns and parents as may be: no one form is longer.
        # (The first three columns can't have three parents; each may have a parent for every earlier column.)
        text = f"table {LONG}t "
        for k in range(6):
            parents = " , ".join(f"{LONG}{j}" for j in range(min(k, 3)))
            text += f"{LONG}{k} num -1000 -1000 " + (f"| {parents} ;" if parents else ";")
        form = self.form(text)
        self.assertEqual(len(form), 23 + 6 * 35 + (19 + 37 + 3 * 55))
        self.assertLess(len(form), 4096)


class WhatLoadLeaves(unittest.TestCase):
    CHANGED = [load(WEATHER), row(1, 2, 1), fit(1, 2), set_group(2, 5, [1, 3])]
    STEPPED = CHANGED + [row(0, GAP, 1), row(GAP, 2, GAP), step(), set_group(1, 0, [1, 2, 4])]

    def test_a_fault_leaves_gaps_and_stepped_chances_as_they_were(self):
        many = len(self.STEPPED)
        wanted = run(*self.STEPPED, *everything(3), step(), *everything(3))[many:]
        self.assertNotEqual(wanted[:9], run(*self.CHANGED, *everything(3))[4:])
        for text in ("", "!", "table T c flag ; c flag ;", "table T c num 5000 1 ;", " " * 4097, WEATHER + ";"):
            with self.subTest(text=text[:30]):
                given = run(*self.STEPPED, load(text), *everything(3), step(), *everything(3))
                self.assertEqual(given[many][0], 0)
                self.assertEqual(given[many + 1:], wanted)

    def test_a_model_begins_anew_behind_gaps_and_steps(self):
        many = len(self.STEPPED)
        asked = everything(3) + [step(), even()] + everything(3) + [row(0, 0, GAP), chance(1, GAP, 0)]
        self.assertEqual(run(*self.STEPPED, load(WEATHER), *asked)[many:], run(load(WEATHER), *asked))
        given = run(
            *self.STEPPED, load("table T c num 3 5 ;"), likely(), expect(), step(), chances(0), chance(4), chance(1, 2, 1),
            post(0, GAP), post(1, GAP), fill(GAP), row(GAP), likely(), expect())
        self.assertEqual(given[many:], [
            [1], [1, 1, 1], [1, 1, 3, 0, 1, 0, 1, 0, 1], [1], [1, 3, 1, 3, 1, 3, 1, 3], [1, 1, 3], [-3],
            [3, 1, 3, 1, 3, 1, 3], [-2], [3, 1, 3, 3], [0], [1, 1, 1], [1, 1, 3, 1, 3, 1, 3, 1, 3]])

    def test_a_fault_leaves_all_as_it_was(self):
        wanted = run(*self.CHANGED, *everything(3))[4:]
        for text in ("", "!", "table T c flag ; c flag ;", "table T c num 5000 1 ;", " " * 4097):
            with self.subTest(text=text[:30]):
                given = run(*self.CHANGED, load(text), *everything(3))
                self.assertEqual(given[4][0], 0)
                self.assertEqual(given[5:], wanted)

    def test_a_model_begins_anew(self):
        fresh = run(load(WEATHER), *everything(3))
        self.assertEqual(run(*self.CHANGED, load(WEATHER), *everything(3))[4:], fresh)
        given = run(*self.CHANGED, load("table T c num 3 5 ;"), counts(0), chances(0), counts(1), row(4), counts(0))
        self.assertEqual(given[4:], [[1], [1, 3, 0, 0, 0], [1, 3, 1, 3, 1, 3, 1, 3], [-2], [0], [1, 3, 0, 1, 0]])


if __name__ == "__main__":
    unittest.main()
