"""Texts and tokens, seen through the faults of load."""

import unittest

from tests.helper import form_of, last, load, run, shown

RESERVED = (
    "chance budget def let observe tell table net flag num if flip pick uniform given weigh true false").split()
SIGNS = "={}()[],;:/|"
MODEL = "table T c flag ;"


def fault(text):
    return last(load(text))


def is_model(text):
    return fault(text) == [1]


class Length(unittest.TestCase):
    def test_4096_bytes(self):
        self.assertTrue(is_model(MODEL + " " * (4096 - len(MODEL))))
        self.assertTrue(is_model(MODEL + "#" * (4096 - len(MODEL))))

    def test_more_than_4096_bytes(self):
        self.assertEqual(fault(MODEL + " " * (4097 - len(MODEL))), [0, 1, 4096])
        self.assertEqual(fault(MODEL + " " * (8192 - len(MODEL))), [0, 1, 4096])

    def test_nothing_else_is_looked_at_in_a_text_too_long(self):
        self.assertEqual(fault([33] * 4097), [0, 1, 4096])
        self.assertEqual(fault([0] * 8192), [0, 1, 4096])

    def test_tokens_are_looked_for_up_to_byte_4096(self):
        self.assertEqual(fault(MODEL + " " * (4095 - len(MODEL)) + "!"), [0, 2, 4095])

    def test_the_empty_text(self):
        self.assertEqual(fault(""), [0, 3, 0])

    def test_a_number_as_long_as_a_text(self):
        self.assertEqual(fault("9" * 4096), [0, 2, 0])
        self.assertEqual(fault("-" + "9" * 4095), [0, 2, 0])


class Bytes(unittest.TestCase):
    def test_each_byte_alone(self):
        for byte in range(256):
            with self.subTest(byte=byte):
                sign = chr(byte)
                if sign in " \t\n#":
                    wanted = [0, 3, 1]
                elif byte < 128 and (sign.isalnum() or sign in SIGNS):
                    wanted = [0, 3, 0]
                else:
                    wanted = [0, 2, 0]
                self.assertEqual(fault([byte]), wanted)

    def test_each_byte_behind_a_model(self):
        for byte in range(256):
            with self.subTest(byte=byte):
                given = fault([ord(sign) for sign in MODEL] + [byte])
                sign = chr(byte)
                if sign in " \t\n#":
                    wanted = [1]
                elif byte < 128 and sign.isalpha():
                    wanted = [0, 3, 17]
                elif byte < 128 and (sign.isdigit() or sign in SIGNS):
                    wanted = [0, 3, 16]
                else:
                    wanted = [0, 2, 16]
                self.assertEqual(given, wanted)

    def test_each_byte_within_a_number_and_a_word(self):
        for byte in range(256):
            with self.subTest(byte=byte):
                sign = chr(byte)
                within_number = fault([ord(c) for c in "table T c num 0 1"] + [byte] + [ord(c) for c in "0;"])
                within_word = fault([ord(c) for c in "table T c1"] + [byte] + [ord(c) for c in "d flag ;"])
                if sign in " \t\n":
                    wanted = ([0, 3, 18], [0, 3, 11])
                elif sign == "#":
                    wanted = ([0, 3, 20], [0, 3, 19])
                elif sign == "-":
                    wanted = ([0, 2, 17], [0, 2, 10])
                elif byte < 128 and sign.isdigit():
                    wanted = ([0, 7, 16], [1])
                elif byte < 128 and sign.isalpha():
                    wanted = ([0, 3, 17], [1])
                elif sign in ";|":
                    wanted = ([0, 3, 18], [0, 3, 10])
                elif sign in SIGNS:
                    wanted = ([0, 3, 17], [0, 3, 10])
                else:
                    wanted = ([0, 2, 17], [0, 2, 10])
                self.assertEqual((within_number, within_word), wanted)


class Blanks(unittest.TestCase):
    def test_blanks_separate(self):
        self.assertTrue(is_model("\n\t table\tT\nc \t\n flag;"))
        self.assertTrue(is_model("table T c flag;d num 0 1|c;"))

    def test_a_remark_goes_up_to_the_line_end(self):
        self.assertTrue(is_model("table#x ! - 007 \x0d #\nT#\nc flag ;"))
        self.assertTrue(is_model("#\n#table\ntable T c flag ;\n#\n"))
        self.assertEqual(fault("table # T\nc flag ;"), [0, 3, 12])

    def test_a_remark_separates(self):
        self.assertEqual(fault("tab#\nle T c flag ;"), [0, 3, 0])

    def test_a_remark_goes_up_to_the_end_of_the_text(self):
        self.assertTrue(is_model(MODEL + " # no line end ! 007"))
        self.assertTrue(is_model(MODEL + "#"))
        self.assertEqual(fault("table T c flag # ;"), [0, 3, 18])

    def test_the_byte_13_is_no_blank(self):
        self.assertEqual(fault("table T\r\nc flag ;"), [0, 2, 7])
        self.assertEqual(fault(MODEL + "\r"), [0, 2, 16])
        self.assertTrue(is_model(MODEL + "#\r"))

    def test_other_white_bytes_are_no_blanks(self):
        for byte in (0, 11, 12, 28, 133, 160):
            with self.subTest(byte=byte):
                self.assertEqual(fault([116, byte]), [0, 2, 1])


class Words(unittest.TestCase):
    def test_16_bytes(self):
        name = "Abcdefghijklmn01"
        self.assertEqual(form_of(last(load(f"table {name} {name} flag;"), shown())), f"table {name}\n{name} flag ;\n")

    def test_17_bytes(self):
        self.assertEqual(fault("table Abcdefghijklmn012 c flag ;"), [0, 2, 6])
        self.assertEqual(fault("table T c flag ; a" + "b" * 16), [0, 2, 17])
        self.assertEqual(fault("table T c flag | " + "a" * 4000), [0, 2, 17])

    def test_digits_within_a_word(self):
        self.assertTrue(is_model("table T1 c007 flag ;"))

    def test_great_and_small_letters_are_unlike(self):
        self.assertTrue(is_model("table T C flag ; c flag | C ;"))
        self.assertEqual(fault("Table T c flag ;"), [0, 3, 0])
        self.assertEqual(fault("table T c Flag ;"), [0, 3, 10])
        self.assertEqual(fault("table T c Num 0 1 ;"), [0, 3, 10])
        self.assertTrue(is_model("table Table Flag flag ; Num num 0 1 | Flag ;"))

    def test_reserved_words_are_no_names(self):
        for word in RESERVED:
            with self.subTest(word=word):
                self.assertEqual(fault(f"table {word} c flag ;"), [0, 3, 6])
                self.assertEqual(fault(f"table T {word} flag ;"), [0, 3, 8])
                self.assertEqual(fault(f"table T c flag | {word} ;"), [0, 3, 17])
                self.assertTrue(is_model(f"table {word}s {word.upper()} flag ;"))

    def test_the_title_may_be_a_columns_name(self):
        self.assertTrue(is_model("table c c flag ;"))


class Numbers(unittest.TestCase):
    def test_a_0_ahead(self):
        for text in ("007", "00", "01", "-0", "-00", "-01", "-007"):
            with self.subTest(text=text):
                self.assertEqual(fault(text), [0, 2, 0])
                self.assertEqual(fault(f"table T c num {text} 1 ;"), [0, 2, 14])

    def test_0_alone(self):
        self.assertTrue(is_model("table T c num 0 0 ;"))
        self.assertTrue(is_model("table T c num -10 10 ;"))

    def test_the_greatest_and_the_least(self):
        self.assertEqual(fault("table T c num 0 1000000000 ;"), [0, 7, 16])
        self.assertEqual(fault("table T c num 0 1000000001 ;"), [0, 2, 16])
        self.assertEqual(fault("table T c num 0 9999999999 ;"), [0, 2, 16])
        self.assertEqual(fault("table T c num -1000000000 0 ;"), [0, 7, 14])
        self.assertEqual(fault("table T c num -1000000001 0 ;"), [0, 2, 14])

    def test_12ab_is_two_tokens(self):
        self.assertEqual(fault("12ab"), [0, 3, 0])
        self.assertEqual(fault("table T c num 0 12ab ;"), [0, 3, 18])

    def test_a_1_is_two_tokens(self):
        self.assertEqual(fault("table T a-1"), [0, 3, 9])
        self.assertEqual(form_of(last(load("table T c num-1 1;"), shown())), "table T\nc num -1 1 ;\n")
        self.assertEqual(form_of(last(load("table T c num-2-1;"), shown())), "table T\nc num -2 -1 ;\n")

    def test_the_fault_is_at_the_minus(self):
        self.assertEqual(fault("table T c num 1-01"), [0, 2, 15])

    def test_other_digits_follow_a_number(self):
        self.assertEqual(fault("table T c num 0 1 2 ;"), [0, 3, 18])


class Signs(unittest.TestCase):
    def test_each_sign_is_a_token(self):
        for sign in SIGNS:
            with self.subTest(sign=sign):
                self.assertEqual(fault(f"table T {sign} flag ;"), [0, 3, 8])
        self.assertEqual(fault("table T c flag;;"), [0, 3, 15])

    def test_the_arrow_is_one_token(self):
        self.assertEqual(fault("->"), [0, 3, 0])
        self.assertEqual(fault("table T c flag ; ->"), [0, 3, 17])
        self.assertEqual(fault("table T c flag ->"), [0, 3, 15])
        self.assertEqual(fault("table T c num 0 1->2"), [0, 3, 17])

    def test_a_minus_with_neither_behind_it(self):
        self.assertEqual(fault("-"), [0, 2, 0])
        self.assertEqual(fault("- >"), [0, 2, 0])
        self.assertEqual(fault("- 1"), [0, 2, 0])
        self.assertEqual(fault("--1"), [0, 2, 0])
        self.assertEqual(fault("-->"), [0, 2, 0])
        self.assertEqual(fault("-a"), [0, 2, 0])
        self.assertEqual(fault("->>"), [0, 2, 2])
        self.assertEqual(fault(">"), [0, 2, 0])


class AllTokensFirst(unittest.TestCase):
    def test_a_token_fault_comes_before_all_other_faults(self):
        self.assertEqual(fault("; !"), [0, 2, 2])
        self.assertEqual(fault("table T c num 5000 0 ; c flag | d ; !"), [0, 2, 36])

    def test_the_first_of_two(self):
        self.assertEqual(fault("table ! ?"), [0, 2, 6])
        self.assertEqual(run(load("a 01 !"), load("a ! 01")), [[0, 2, 2], [0, 2, 2]])


if __name__ == "__main__":
    unittest.main()
