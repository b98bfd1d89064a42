"""Points 15 to 18: rules, held against all letters, one by one."""

import itertools
import random
import unittest

from tests.sets import PLACES, all_letters, all_rows, check_apart, check_refused, deep_kinds, first_of
from tests.sets import is_some_in_order, letters_in, narrow, spread, written
from throng.rules import rule_deed, rule_first, rule_needed, rule_shares, rules_thinned


def deed_of(rules, letter):
    number = first_of(rules, letter)
    if number == len(rules) or rules[number][1] == "drop":
        return ("drop", None)
    return ("pass", written(letter, rules[number][2]))


def without(rules, number):
    return rules[:number] + rules[number + 1:]


def some_rules(chance, width, most):
    """Up to so many rules; rows and overs that tell much, or little."""
    rules = []
    signs = chance.choice(["01-", "01---", "01-------"])
    overs = chance.choice(["-", "01-", "01-----"])
    words = chance.choice([["pass"], ["pass", "drop"], ["pass", "pass", "drop"]])
    for number in range(chance.randint(0, most)):
        row = "".join(chance.choice(signs) for place in range(width))
        over = "".join(chance.choice(overs) for place in range(width))
        rules.append((row, chance.choice(words), over))
    return rules


def wide_rules(rules):
    return [(spread([row], PLACES, 48)[0], word, spread([over], PLACES, 48)[0]) for row, word, over in rules]


class Rules(unittest.TestCase):
    def check_letters(self, rules, letters):
        for letter in letters:
            number = rule_first(rules, letter)
            self.assertEqual(number, first_of(rules, letter), (rules, letter))
            self.assertIs(type(number), int)
            deed = rule_deed(rules, letter)
            self.assertEqual(deed, deed_of(rules, letter), (rules, letter))
            self.assertIs(type(deed), tuple)

    def check_shares(self, rules, row):
        shares = rule_shares(rules, row)
        self.assertEqual(deep_kinds(shares), (list, [(tuple, [str, int])] * len(shares)))
        check_apart(self, [part for part, number in shares], len(row), letters_in(row))
        for part, number in shares:
            for letter in letters_in(part):
                self.assertEqual(number, first_of(rules, letter), (rules, row))

    def check_needed(self, rules, number, width):
        others = without(rules, number)
        parted = [letter for letter in all_letters(width) if deed_of(rules, letter) != deed_of(others, letter)]
        letter = rule_needed(rules, number, width)
        if parted:
            self.assertIs(type(letter), str)
            self.assertIn(letter, parted, (rules, number))
        else:
            self.assertIsNone(letter, (rules, number))

    def check_thinned(self, rules, width):
        kept = rules_thinned(rules, width)
        self.assertEqual(deep_kinds(kept), (list, [(tuple, [str, str, str])] * len(kept)))
        self.assertTrue(is_some_in_order(kept, rules), (kept, rules))
        deeds = [deed_of(rules, letter) for letter in all_letters(width)]
        self.assertEqual([deed_of(kept, letter) for letter in all_letters(width)], deeds, rules)
        for number in range(len(kept)):
            others = without(kept, number)
            self.assertNotEqual([deed_of(others, letter) for letter in all_letters(width)], deeds, rules)

    def check_all(self, rules, width):
        self.check_letters(rules, all_letters(width))
        self.check_shares(rules, "-" * width)
        for number in range(len(rules)):
            self.check_needed(rules, number, width)
        self.check_thinned(rules, width)


class SmallRules(Rules):
    def test_each_list_of_width_one(self):
        rules = [(row, word, over) for row in "01-" for word in ("pass", "drop") for over in "01-"]
        for count in range(3):
            for some in itertools.product(rules, repeat=count):
                self.check_all(list(some), 1)
        passing = [rule for rule in rules if rule[1] == "pass" or rule[2] == "-"]
        for some in itertools.product(passing, repeat=3):
            self.check_all(list(some), 1)

    def test_each_two_rules_of_width_two(self):
        overs = ["--", "0-", "-1", "10"]
        rules = [(row, word, over) for row in all_rows(2) for word in ("pass", "drop") for over in overs]
        for some in itertools.product(rules, repeat=2):
            self.check_all(list(some), 2)

    def test_some_rules(self):
        for width in range(1, 7):
            chance = random.Random(width)
            for number in range(60):
                self.check_all(some_rules(chance, width, 9), width)

    def test_shares_of_each_row(self):
        chance = random.Random(16)
        for width in (1, 2, 3):
            for number in range(20):
                rules = some_rules(chance, width, 6)
                for row in all_rows(width):
                    self.check_shares(rules, row)

    def test_shares_of_some_rows(self):
        chance = random.Random(17)
        for width in (4, 5, 6):
            for number in range(100):
                row = "".join(chance.choice("01---") for place in range(width))
                self.check_shares(some_rules(chance, width, 9), row)


class RulesByHand(Rules):
    def test_first_rule_counts(self):
        rules = [("01-", "pass", "--1"), ("0--", "drop", "---"), ("---", "pass", "1--")]
        self.assertEqual([rule_first(rules, letter) for letter in ("010", "001", "111")], [0, 1, 2])
        self.assertEqual(rule_deed(rules, "010"), ("pass", "011"))
        self.assertEqual(rule_deed(rules, "001"), ("drop", None))
        self.assertEqual(rule_deed(rules, "100"), ("pass", "100"))
        self.assertEqual(rule_first(rules[:2], "111"), 2)
        self.assertEqual(rule_deed(rules[:2], "111"), ("drop", None))

    def test_alike_rules_have_the_first_number(self):
        rules = [("0", "pass", "-")] * 3
        self.assertEqual(rule_first(rules, "0"), 0)
        self.assertEqual(rule_first(rules, "1"), 3)
        self.assertEqual(sorted(rule_shares(rules, "-")), [("0", 0), ("1", 3)])
        self.assertEqual(rules_thinned(rules, 1), [("0", "pass", "-")])

    def test_no_rules(self):
        for width in (1, 3, 48):
            self.assertEqual(rule_first([], "0" * width), 0)
            self.assertEqual(rule_deed([], "1" * width), ("drop", None))
            self.assertEqual(rules_thinned([], width), [])
            for number in (-1, 0, 1):
                check_refused(self, "NoRule", rule_needed, [], number, width)
        for row in all_rows(3):
            self.check_shares([], row)
        self.assertEqual([number for part, number in rule_shares([], "-" * 48)], [0])

    def test_number_that_no_rule_has(self):
        chance = random.Random(20)
        for number in range(20):
            rules = some_rules(chance, 4, 6)
            count = len(rules)
            for wrong in (-301, -count - 1, -count, -2, -1, count, count + 1, 300, 10 ** 20):
                if not 0 <= wrong < count:
                    check_refused(self, "NoRule", rule_needed, rules, wrong, 4)

    def test_shares_of_a_letter(self):
        rules = [("0-", "drop", "--"), ("-1", "pass", "--")]
        self.assertEqual(rule_shares(rules, "01"), [("01", 0)])
        self.assertEqual(rule_shares(rules, "11"), [("11", 1)])
        self.assertEqual(rule_shares(rules, "10"), [("10", 2)])

    def test_over_of_a_rule_that_drops_is_not_looked_at(self):
        rules = [("0-", "drop", "11"), ("--", "drop", "00")]
        self.assertIsNone(rule_needed(rules, 0, 2))
        self.assertIsNone(rule_needed(rules, 1, 2))
        self.assertEqual(rules_thinned(rules, 2), [])
        self.assertEqual(rule_deed(rules, "01"), ("drop", None))

    def test_overs_that_write_what_is_there(self):
        self.assertIsNone(rule_needed([("0-", "pass", "0-"), ("--", "pass", "--")], 0, 2))
        self.assertEqual(rule_needed([("0-", "pass", "1-"), ("--", "pass", "--")], 0, 2)[0], "0")
        self.assertEqual(rule_needed([("0-", "pass", "-1"), ("--", "pass", "--")], 0, 2), "00")
        self.assertEqual(rule_needed([("0-", "pass", "-0"), ("--", "pass", "--")], 0, 2), "01")
        self.assertEqual(rule_needed([("0-", "pass", "--"), ("--", "pass", "-0")], 0, 2), "01")
        self.assertEqual(rule_needed([("0-", "pass", "-1"), ("--", "pass", "-0")], 0, 2)[0], "0")

    def test_to_strike_one_makes_another_needless(self):
        rules = [("0-", "pass", "--"), ("0-", "drop", "--"), ("--", "pass", "--")]
        self.assertEqual(rule_needed(rules, 0, 2)[0], "0")
        self.assertEqual(rules_thinned(rules, 2), [("--", "pass", "--")])

    def test_rule_behind_those_that_have_its_letters(self):
        rules = [("0-", "pass", "--"), ("-0", "pass", "--"), ("-1", "pass", "--"), ("1-", "drop", "--")]
        self.assertIsNone(rule_needed(rules, 3, 2))
        self.assertEqual(rule_needed(rules, 1, 2), "10")
        self.assertEqual(rule_needed(rules, 2, 2), "11")
        self.check_all(rules, 2)

    def test_nothing_is_left_where_all_are_dropped(self):
        rules = [("0--", "drop", "---"), ("-1-", "drop", "--1"), ("1-1", "drop", "---")]
        self.assertEqual(rules_thinned(rules, 3), [])


class WideRules(Rules):
    """Rules of 48 signs that tell no place beside PLACES, held against the same rules of these places alone."""

    def check_wide(self, rules, count):
        wide = wide_rules(rules)
        for letter in all_letters(count):
            long = spread([letter], PLACES, 48)[0].replace("-", "1")
            self.assertEqual(rule_first(wide, long), first_of(rules, letter))
            self.assertEqual(rule_deed(wide, long), deed_of(wide, long))
        self.check_wide_shares(wide, rules, "-" * count)
        for number in range(len(rules)):
            self.check_wide_needed(wide, rules, number, count)
        kept = rules_thinned(wide, 48)
        self.assertTrue(is_some_in_order(kept, wide))
        deeds = [deed_of(rules, letter) for letter in all_letters(count)]
        left = [(narrow(row, PLACES[:count]), word, narrow(over, PLACES[:count])) for row, word, over in kept]
        self.assertEqual([deed_of(left, letter) for letter in all_letters(count)], deeds)
        for number in range(len(left)):
            others = without(left, number)
            self.assertNotEqual([deed_of(others, letter) for letter in all_letters(count)], deeds)

    def check_wide_shares(self, wide, rules, row):
        shares = rule_shares(wide, spread([row], PLACES, 48)[0])
        beside = [place for place in range(48) if place not in PLACES]
        parts = []
        for part, number in shares:
            self.assertEqual(narrow(part, beside), "-" * len(beside))
            parts.append(narrow(part, PLACES[:len(row)]))
            for letter in letters_in(parts[-1]):
                self.assertEqual(number, first_of(rules, letter))
        check_apart(self, parts, len(row), letters_in(row))

    def check_wide_needed(self, wide, rules, number, count):
        letter = rule_needed(wide, number, 48)
        others = without(rules, number)
        if all(deed_of(rules, small) == deed_of(others, small) for small in all_letters(count)):
            self.assertIsNone(letter)
        else:
            self.assertEqual((len(letter), set(letter) <= set("01")), (48, True))
            self.assertNotEqual(deed_of(wide, letter), deed_of(without(wide, number), letter))

    def test_some_rules(self):
        for count in (1, 3, 6):
            chance = random.Random(count + 70)
            for number in range(15):
                self.check_wide(some_rules(chance, count, 9), count)

    def test_twelve_places(self):
        chance = random.Random(12)
        for number in range(3):
            rules = some_rules(chance, 12, 5) + [("1" * 12, "pass", "0" * 5 + "-" * 7)]
            self.check_wide(rules, 12)
            row = "".join(chance.choice("01---") for place in range(12))
            self.check_wide_shares(wide_rules(rules), rules, row)

    def test_letters_of_all_places(self):
        chance = random.Random(48)
        rules = []
        for number in range(300):
            row = "".join(chance.choice("01-----") for place in range(48))
            over = "".join(chance.choice("01-") for place in range(48))
            rules.append((row, chance.choice(["pass", "drop"]), over))
        letters = ["".join(chance.choice("01") for place in range(48)) for number in range(50)]
        self.check_letters(rules, letters + [row.replace("-", "1") for row, word, over in rules])
        self.check_letters(rules[::-1], [row.replace("-", "0") for row, word, over in rules])


class ManyRules(Rules):
    def many(self, seed, signs, width, count):
        chance = random.Random(seed)
        rules = []
        for number in range(count):
            row = "".join(chance.choice(signs) for place in range(width))
            over = "".join(chance.choice("01---") for place in range(5)) + "-" * (width - 5)
            rules.append((row, chance.choice(["pass", "drop"]), over))
        return rules

    def firsts(self, rules, width):
        """The number of point 15 for all letters at once, from the last rule on."""
        numbers = {letter: len(rules) for letter in all_letters(width)}
        for number in range(len(rules) - 1, -1, -1):
            numbers.update({letter: number for letter in letters_in(rules[number][0])})
        return numbers

    def deed_by(self, rules, number, letter):
        return deed_of(rules[number:number + 1], letter) if number < len(rules) else ("drop", None)

    def check_many(self, rules, width):
        numbers = self.firsts(rules, width)
        shares = rule_shares(rules, "-" * width)
        check_apart(self, [part for part, number in shares], width, numbers)
        for part, number in shares:
            self.assertEqual({numbers[letter] for letter in letters_in(part)}, {number})
        kept = rules_thinned(rules, width)
        self.assertTrue(is_some_in_order(kept, rules))
        left = self.firsts(kept, width)
        for letter in numbers:
            self.assertEqual(self.deed_by(kept, left[letter], letter), self.deed_by(rules, numbers[letter], letter))
        for number in range(len(kept)):
            letter = rule_needed(kept, number, width)
            self.assertNotEqual(deed_of(kept, letter), deed_of(without(kept, number), letter))

    def test_three_hundred_rules(self):
        for signs in ("01", "01-", "01-----"):
            self.check_many(self.many(signs, signs, 12, 300), 12)

    def test_somewhat_beyond_the_bounds(self):
        self.check_many(self.many(13, "01--", 13, 310), 13)
