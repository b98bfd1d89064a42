"""Points 5, 6 and 7: rows and letters."""

import unittest

from tests.sets import OTHER_SIGNS, OTHER_THINGS, all_letters, all_rows, letters_in
from throng.rows import is_letter, is_row, row_holds, row_least, row_less, row_meet
from throng.rows import row_size, row_within, row_written


class Kinds(unittest.TestCase):
    def told(self, thing, width, row, letter):
        self.assertIs(is_row(thing, width), row, (thing, width))
        self.assertIs(is_letter(thing, width), letter, (thing, width))

    def test_rows_and_letters_told_apart(self):
        for width in range(1, 5):
            for row in all_rows(width):
                self.told(row, width, True, "-" not in row)

    def test_one_sign(self):
        self.told("0", 1, True, True)
        self.told("1", 1, True, True)
        self.told("-", 1, True, False)

    def test_width_48(self):
        self.told("01" * 24, 48, True, True)
        self.told("0" * 48, 48, True, True)
        self.told("1" * 48, 48, True, True)
        self.told("-" * 48, 48, True, False)
        self.told("-" + "0" * 47, 48, True, False)
        self.told("1" * 47 + "-", 48, True, False)
        self.told("0" * 23 + "-" + "1" * 24, 48, True, False)

    def test_one_sign_too_many_or_too_few(self):
        for width in range(1, 49):
            for sign in "01-":
                self.told(sign * width, width, True, sign != "-")
                self.told(sign * (width + 1), width, False, False)
                self.told(sign * (width - 1), width, False, False)

    def test_text_without_signs(self):
        for width in range(1, 49):
            self.told("", width, False, False)

    def test_other_signs(self):
        for sign in OTHER_SIGNS:
            self.told(sign, 1, False, False)
            for width in (2, 3, 48):
                for place in range(width):
                    self.told("0" * place + sign + "1" * (width - place - 1), width, False, False)

    def test_line_end_or_tab_beside_a_whole_row(self):
        for row in ("0", "01", "01-", "0" * 47, "1" * 48):
            for sign in ("\n", "\t", " ", "\r", "\0"):
                for thing in (row + sign, sign + row):
                    self.told(thing, len(row), False, False)
                    self.told(thing, len(row) + 1, False, False)

    def test_several_signs_are_not_one(self):
        self.told("01-", 1, False, False)
        self.told("01", 1, False, False)
        self.told("1-", 1, False, False)

    def test_things_of_other_kinds(self):
        for thing in OTHER_THINGS:
            for width in (1, 2, 3, 48):
                self.told(thing, width, False, False)
        for width in (1, 2, 48):
            self.told(["0"] * width, width, False, False)
            self.told(("1",) * width, width, False, False)
            self.told([0] * width, width, False, False)
            self.told((True,) * width, width, False, False)

    def test_number_with_the_looks_of_a_letter(self):
        self.told(1, 1, False, False)
        self.told(0, 1, False, False)
        self.told(11, 2, False, False)


class OneRow(unittest.TestCase):
    def test_letters_that_lie_in_a_row(self):
        for width in range(1, 5):
            for row in all_rows(width):
                inside = letters_in(row)
                for letter in all_letters(width):
                    self.assertIs(row_holds(row, letter), letter in inside, (row, letter))

    def test_size_and_least(self):
        for width in range(1, 6):
            for row in all_rows(width):
                self.assertEqual(row_size(row), len(letters_in(row)))
                self.assertEqual(row_least(row), min(letters_in(row)))

    def test_wide_rows(self):
        self.assertEqual(row_size("-" * 48), 281474976710656)
        self.assertEqual(row_least("-" * 48), "0" * 48)
        self.assertEqual(row_size("1" + "-" * 47), 140737488355328)
        self.assertEqual(row_least("1" + "-" * 47), "1" + "0" * 47)
        self.assertEqual(row_size("10" * 24), 1)
        self.assertEqual(row_least("10" * 24), "10" * 24)
        self.assertIs(row_holds("-" * 48, "01" * 24), True)
        self.assertIs(row_holds("-" * 47 + "0", "01" * 24), False)
        self.assertIs(row_holds("1" + "-" * 47, "01" * 24), False)
        self.assertIs(row_holds("01" * 24, "01" * 24), True)

    def test_size_for_each_count_of_either(self):
        for count in range(49):
            self.assertEqual(row_size("-" * count + "0" * (48 - count)), 2 ** count)


class TwoRows(unittest.TestCase):
    def pairs(self):
        for width in range(1, 4):
            for one in all_rows(width):
                for other in all_rows(width):
                    yield one, other

    def test_meet(self):
        for one, other in self.pairs():
            both = letters_in(one) & letters_in(other)
            met = row_meet(one, other)
            if both:
                self.assertIs(is_row(met, len(one)), True)
                self.assertEqual(letters_in(met), both, (one, other))
            else:
                self.assertIsNone(met, (one, other))

    def test_meet_of_wide_rows(self):
        self.assertEqual(row_meet("-" * 48, "-" * 48), "-" * 48)
        self.assertEqual(row_meet("01" * 24, "-" * 48), "01" * 24)
        self.assertEqual(row_meet("0-" * 24, "-1" * 24), "01" * 24)
        self.assertIsNone(row_meet("-" * 47 + "0", "-" * 47 + "1"))
        self.assertIsNone(row_meet("1" + "-" * 47, "0" + "-" * 47))

    def test_within(self):
        for one, other in self.pairs():
            self.assertIs(row_within(one, other), letters_in(one) <= letters_in(other), (one, other))

    def test_within_wide_rows(self):
        self.assertIs(row_within("01" * 24, "-" * 48), True)
        self.assertIs(row_within("-" * 48, "-" * 48), True)
        self.assertIs(row_within("-" * 48, "-" * 47 + "1"), False)
        self.assertIs(row_within("0" * 48, "0" * 47 + "1"), False)

    def test_over_that_tells_no_place_some_or_all(self):
        self.assertEqual(row_written("01-", "---"), "01-")
        self.assertEqual(row_written("01-", "1-0"), "110")
        self.assertEqual(row_written("01-", "-0-"), "00-")
        self.assertEqual(row_written("01-", "100"), "100")
        self.assertEqual(row_written("---", "-1-"), "-1-")
        self.assertEqual(row_written("0-" * 24, "-" * 48), "0-" * 24)
        self.assertEqual(row_written("0-" * 24, "-1" * 24), "01" * 24)
        self.assertEqual(row_written("0-" * 24, "10" * 24), "10" * 24)

    def test_over_sign_by_sign(self):
        for row, over in self.pairs():
            written = row_written(row, over)
            self.assertEqual(len(written), len(row))
            for place in range(len(row)):
                wanted = row[place] if over[place] == "-" else over[place]
                self.assertEqual(written[place], wanted, (row, over))


class OneLessAnother(unittest.TestCase):
    def check(self, one, other):
        rows = row_less(one, other)
        self.assertIs(type(rows), list)
        told = []
        for row in rows:
            self.assertIs(is_row(row, len(one)), True)
            told.extend(letters_in(row))
        self.assertEqual(len(told), len(set(told)), ("not apart", one, other))
        self.assertEqual(set(told), letters_in(one) - letters_in(other), (one, other))

    def test_small_rows(self):
        for width in range(1, 5):
            for one in all_rows(width):
                for other in all_rows(width):
                    self.check(one, other)

    def test_nothing_left(self):
        for one, other in (("0", "0"), ("0", "-"), ("-", "-"), ("01-", "0--"), ("-" * 48, "-" * 48),
                           ("01" * 24, "01" * 24), ("01" * 24, "-1" * 24)):
            self.assertEqual(row_less(one, other), [])

    def test_rows_that_do_not_meet(self):
        for one, other in (("0", "1"), ("-0", "-1"), ("0" + "-" * 47, "1" + "-" * 47)):
            rows = row_less(one, other)
            self.assertEqual(sum(row_size(row) for row in rows), row_size(one))
            for row in rows:
                self.assertIs(row_within(row, one), True)

    def test_wide_rows(self):
        for one, other in (("-" * 48, "01" * 24), ("-" * 48, "-" * 47 + "1"), ("-" * 48, "0" * 48),
                           ("0-" * 24, "01" * 24), ("-" * 48, "1-" * 24), ("-1" * 24, "1-" * 24)):
            rows = row_less(one, other)
            self.assertEqual(sum(row_size(row) for row in rows), row_size(one) - row_size(row_meet(one, other)))
            for number, row in enumerate(rows):
                self.assertIs(is_row(row, 48), True)
                self.assertIs(row_within(row, one), True)
                self.assertIsNone(row_meet(row, other))
                for later in rows[number + 1:]:
                    self.assertIsNone(row_meet(row, later))
