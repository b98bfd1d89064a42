"""Point 8: heaps, held against all letters, one by one."""

import itertools
import random
import unittest

from tests.sets import PLACES, all_heaps, all_letters, letters_in, letters_of, narrow, some_heaps, spread
from throng.heaps import heap_apart, heap_has, heap_less, heap_meet, heap_missing, heap_parted, heap_size
from throng.rows import is_letter, is_row


class Heaps(unittest.TestCase):
    def rows_have(self, rows, width, letters):
        self.assertIs(type(rows), list)
        told = []
        for row in rows:
            self.assertIs(is_row(row, width), True, row)
            told.extend(letters_in(row))
        self.assertEqual(len(told), len(set(told)), "not apart")
        self.assertEqual(set(told), letters)

    def letter_among(self, letter, width, letters):
        if letters:
            self.assertIs(is_letter(letter, width), True, letter)
            self.assertIn(letter, letters)
        else:
            self.assertIsNone(letter)

    def check_one(self, heap, width):
        letters = letters_of(heap)
        for letter in all_letters(width):
            self.assertIs(heap_has(heap, letter), letter in letters, (heap, letter))
        self.rows_have(heap_apart(heap), width, letters)
        self.assertEqual(heap_size(heap), len(letters), heap)
        self.assertIs(type(heap_size(heap)), int)

    def check_two(self, one, other, width):
        in_one = letters_of(one)
        in_other = letters_of(other)
        self.rows_have(heap_meet(one, other), width, in_one & in_other)
        self.rows_have(heap_less(one, other), width, in_one - in_other)
        self.letter_among(heap_missing(one, other), width, in_one - in_other)
        self.letter_among(heap_parted(one, other), width, in_one ^ in_other)


class SmallHeaps(Heaps):
    def test_each_small_heap(self):
        for width, most in ((1, 3), (2, 3), (3, 2)):
            for heap in all_heaps(width, most):
                self.check_one(heap, width)

    def test_each_two_small_heaps(self):
        for width, most in ((1, 2), (2, 2)):
            for one in all_heaps(width, most):
                for other in all_heaps(width, most):
                    self.check_two(one, other, width)

    def test_each_two_sets_of_letters(self):
        heaps = [list(heap) for count in range(5) for heap in itertools.combinations(all_letters(2), count)]
        for one in heaps:
            for other in heaps:
                self.check_two(one, other, 2)

    def test_some_heaps(self):
        for width in (3, 4, 5, 6):
            heaps = some_heaps(width, width, 40, 9)
            for heap in heaps:
                self.check_one(heap, width)
            for one, other in zip(heaps, heaps[1:]):
                self.check_two(one, other, width)

    def test_heaps_of_the_same_letters_are_not_parted(self):
        for heap in some_heaps(77, 5, 40, 9):
            letters = sorted(letters_of(heap))
            self.assertIsNone(heap_parted(heap, letters))
            self.assertIsNone(heap_parted(letters, heap))
            self.assertIsNone(heap_missing(heap, letters))
            self.assertEqual(heap_less(heap, letters), [])
            if letters:
                self.letter_among(heap_parted(heap, letters[1:]), 5, {letters[0]})
                self.letter_among(heap_parted(letters[:-1], heap), 5, {letters[-1]})
                self.assertIsNone(heap_missing(letters[1:], heap))


class HeapsWithoutRows(Heaps):
    def test_none_alone(self):
        self.assertIs(heap_has([], "0"), False)
        self.assertIs(heap_has([], "1" * 48), False)
        self.assertEqual(heap_apart([]), [])
        self.assertEqual(heap_size([]), 0)

    def test_both_without(self):
        self.assertEqual(heap_meet([], []), [])
        self.assertEqual(heap_less([], []), [])
        self.assertIsNone(heap_missing([], []))
        self.assertIsNone(heap_parted([], []))

    def test_one_without(self):
        for heap in (["0"], ["-"], ["01-", "1--"], ["-" * 48], ["0" + "-" * 47, "0" + "-" * 47]):
            self.assertEqual(heap_meet([], heap), [])
            self.assertEqual(heap_meet(heap, []), [])
            self.assertEqual(heap_less([], heap), [])
            self.assertIsNone(heap_missing([], heap))
            for letter in (heap_missing(heap, []), heap_parted(heap, []), heap_parted([], heap)):
                self.assertIs(is_letter(letter, len(heap[0])), True)
                self.assertIs(heap_has(heap, letter), True)

    def test_one_without_small(self):
        for heap in all_heaps(2, 2):
            self.check_two(heap, [], 2)
            self.check_two([], heap, 2)


class AlikeAndOverlapping(Heaps):
    def test_alike_rows_count_once(self):
        self.check_one(["01-"] * 5, 3)
        self.check_one(["---"] * 300, 3)
        self.check_two(["01-"] * 5, ["0--", "0--"], 3)
        self.assertEqual(heap_size(["-" * 48] * 300), 2 ** 48)

    def test_overlapping_rows_count_once(self):
        self.check_one(["0--", "-0-", "--0"], 3)
        self.check_one(["0---", "-1--", "0-1-", "----"], 4)
        self.check_two(["0--", "-0-", "--0"], ["111", "0--", "01-"], 3)
        self.assertEqual(heap_size(["0" + "-" * 47, "-" * 47 + "0"]), 2 ** 48 - 2 ** 46)


class WideRows(Heaps):
    def wide(self, heap):
        return spread(heap, PLACES, 48)

    def check_rows(self, rows, letters, count):
        """Rows of 48 signs that tell no place beside PLACES: held against the letters of these places."""
        self.assertIs(type(rows), list)
        beside = [place for place in range(48) if place not in PLACES]
        for row in rows:
            self.assertIs(is_row(row, 48), True)
            self.assertEqual(narrow(row, beside), "-" * len(beside))
        self.rows_have([narrow(row, PLACES[:count]) for row in rows], count, letters)

    def test_some_wide_heaps(self):
        for count in (1, 6, 12):
            heaps = some_heaps(count, count, 10, 20)
            for one, other in zip(heaps, heaps[1:]):
                in_one = letters_of(one)
                in_other = letters_of(other)
                wide_one = self.wide(one)
                wide_other = self.wide(other)
                self.check_rows(heap_apart(wide_one), in_one, count)
                self.check_rows(heap_meet(wide_one, wide_other), in_one & in_other, count)
                self.check_rows(heap_less(wide_one, wide_other), in_one - in_other, count)
                self.assertEqual(heap_size(wide_one), len(in_one) * 2 ** (48 - count))
                self.check_letter(heap_missing(wide_one, wide_other), in_one - in_other, count)
                self.check_letter(heap_parted(wide_one, wide_other), in_one ^ in_other, count)

    def check_letter(self, letter, letters, count):
        if letter is not None:
            self.assertIs(is_letter(letter, 48), True)
            letter = narrow(letter, PLACES[:count])
        self.letter_among(letter, count, letters)

    def test_places_told_by_the_two_together(self):
        one = ["0" + "-" * 47, "-1" + "-" * 46]
        other = ["-" * 47 + "1"]
        self.assertEqual(heap_size(heap_meet(one, other)), 3 * 2 ** 45)
        self.assertEqual(heap_size(heap_less(one, other)), 3 * 2 ** 45)
        self.assertEqual(heap_size(heap_less(other, one)), 2 ** 45)
        for letter in (heap_missing(one, other), heap_missing(other, one), heap_parted(one, other)):
            self.assertIs(is_letter(letter, 48), True)
        self.assertIs(heap_has(one, heap_missing(one, other)), True)
        self.assertIs(heap_has(other, heap_missing(one, other)), False)
        self.assertIs(heap_has(other, heap_missing(other, one)), True)
        self.assertIs(heap_has(one, heap_missing(other, one)), False)
        letter = heap_parted(one, other)
        self.assertNotEqual(heap_has(one, letter), heap_has(other, letter))

    def test_rows_that_tell_no_place(self):
        self.assertEqual(heap_apart(["-" * 48, "-" * 48]), ["-" * 48])
        self.assertEqual(heap_less(["-" * 48], ["-" * 48]), [])
        self.assertIsNone(heap_parted(["-" * 48], ["0" + "-" * 47, "1" + "-" * 47]))

    def test_a_letter_of_many_told_places(self):
        chance = random.Random(48)
        heap = ["".join(chance.choice("01-") for place in range(48)) for row in range(300)]
        for number in range(0, 300, 7):
            letter = heap[number].replace("-", "1")
            self.assertIs(heap_has(heap, letter), True)
            self.assertIs(heap_has([row for row in heap if row == heap[number]], letter), True)
        letters = ["".join(chance.choice("01") for place in range(48)) for row in range(300)]
        self.assertIs(heap_has(letters[1:], letters[0]), False)
        self.assertIs(heap_has(letters, letters[0]), True)
        self.assertIs(heap_has(letters, letters[299]), True)


class ManyRows(Heaps):
    def many(self, seed, signs, size, width=12):
        chance = random.Random(seed)
        return ["".join(chance.choice(signs) for place in range(width)) for row in range(size)]

    def test_three_hundred_rows(self):
        for signs in ("01", "01-", "0-", "01-------"):
            one = self.many(signs, signs, 300)
            other = self.many(signs * 2, signs, 300)
            self.rows_have(heap_apart(one), 12, letters_of(one))
            self.assertEqual(heap_size(one), len(letters_of(one)))
            self.check_two(one, other, 12)

    def test_letters_of_odd_count(self):
        odd = [letter for letter in all_letters(8) if letter.count("1") % 2 == 1]
        even = [letter for letter in all_letters(8) if letter.count("1") % 2 == 0]
        self.check_two(odd, even, 8)
        self.check_two(odd, odd + even, 8)
        self.assertEqual(heap_size(odd + even), 256)

    def test_somewhat_beyond_the_bounds(self):
        one = self.many(5, "01-", 320, 14)
        other = self.many(6, "01-", 320, 14)
        self.assertEqual(heap_size(one), len(letters_of(one)))
        self.check_two(one, other, 14)
        self.assertEqual(heap_size(["0" + "-" * 49, "-" * 49 + "0"]), 3 * 2 ** 48)
