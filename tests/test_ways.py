"""Points 19 and 20: ways, held against all signs of a small size, and trees of ways."""

import itertools
import random
import unittest

from tests.sets import OTHER_SIGNS, OTHER_THINGS, all_letters, check_apart, check_refused, deep_kinds, door_of
from tests.sets import is_some_in_order, letters_in
from throng.ways import Tree, way_found, way_rows, ways_thinned


def all_signs(most):
    """All texts of 0 to so many signs, sorted."""
    return sorted("".join(signs) for size in range(most + 1) for signs in itertools.product("01", repeat=size))


def doors_of(ways, size):
    return [door_of(ways, signs) for signs in all_letters(size)]


def without(ways, number):
    return ways[:number] + ways[number + 1:]


def all_ways(longest, doors):
    """Every set of ways with beginnings up to so long."""
    beginnings = all_signs(longest)
    for chosen in itertools.product([None] + doors, repeat=len(beginnings)):
        yield [(beginning, door) for beginning, door in zip(beginnings, chosen) if door is not None]


def some_ways(chance, longest, most):
    doors = chance.choice([["in"], ["in", "out"], ["a", "b", "longdoor"]])
    beginnings = chance.sample(all_signs(longest), min(chance.randint(0, most), 2 ** (longest + 1) - 1))
    return [(beginning, chance.choice(doors)) for beginning in beginnings]


class Ways(unittest.TestCase):
    def check_found(self, ways, signs):
        self.assertEqual(way_found(ways, signs), door_of(ways, signs), (ways, signs))

    def check_rows(self, ways, size):
        rows = way_rows(ways, size)
        self.assertIs(type(rows), list)
        for told in rows:
            self.assertIn(deep_kinds(told), [(tuple, [str, str]), (tuple, [str, type(None)])])
        for row, door in rows:
            for signs in letters_in(row):
                self.assertEqual(door_of(ways, signs), door, (ways, size))
        check_apart(self, [row for row, door in rows], size, all_letters(size))

    def check_thinned(self, ways, size):
        kept = ways_thinned(ways, size)
        self.assertEqual(deep_kinds(kept), (list, [(tuple, [str, str])] * len(kept)))
        self.assertTrue(is_some_in_order(kept, ways), (ways, kept))
        doors = doors_of(ways, size)
        self.assertEqual(doors_of(kept, size), doors, (ways, kept, size))
        for number in range(len(kept)):
            self.assertNotEqual(doors_of(without(kept, number), size), doors, (ways, kept, size))

    def check(self, ways, size):
        self.check_rows(ways, size)
        self.check_thinned(ways, size)


class SmallWays(Ways):
    def test_each_small_list(self):
        for longest, doors in ((0, ["a", "b"]), (1, ["a", "b"]), (2, ["a", "b"])):
            for ways in all_ways(longest, doors):
                for signs in all_signs(longest + 1):
                    self.check_found(ways, signs)
                for size in range(max(longest, 1), 4):
                    self.check(ways, size)

    def test_in_whatever_order(self):
        chance = random.Random(19)
        for longest in (1, 2, 3):
            for number in range(60):
                ways = some_ways(chance, longest, 9)
                chance.shuffle(ways)
                for signs in all_signs(longest + 1):
                    self.check_found(ways, signs)
                self.check(ways, longest)
                self.check(ways, longest + 1)

    def test_some_ways(self):
        for size in range(1, 7):
            chance = random.Random(size)
            for number in range(60):
                ways = some_ways(chance, chance.randint(0, size), 14)
                self.check(ways, size)
                for signs in all_signs(size):
                    self.check_found(ways, signs)

    def test_many_ways_of_few_doors(self):
        chance = random.Random(5)
        for number in range(40):
            ways = [(signs, chance.choice(["a", "a", "b"])) for signs in all_signs(4) if chance.random() < 0.7]
            chance.shuffle(ways)
            self.check(ways, 4)
            self.check(ways, 5)


class WaysByHand(Ways):
    def test_found(self):
        ways = [("0", "in"), ("", "any"), ("011", "out"), ("01", "side")]
        asked = ["", "1", "0", "00", "01", "010", "011", "0110", "0" * 48, "01" * 24, "1" * 48]
        told = ["any", "any", "in", "in", "side", "side", "out", "out", "in", "side", "any"]
        self.assertEqual([way_found(ways, signs) for signs in asked], told)
        self.assertIsNone(way_found(without(ways, 1), ""))
        self.assertIsNone(way_found(without(ways, 1), "10"))

    def test_no_ways(self):
        for signs in ("", "0", "01" * 24):
            self.assertIsNone(way_found([], signs))
        for size in (1, 2, 6):
            self.check_rows([], size)
        self.assertEqual({door for row, door in way_rows([], 48)}, {None})
        self.assertEqual(ways_thinned([], 1), [])
        self.assertEqual(ways_thinned([], 48), [])

    def test_way_without_signs(self):
        ways = [("", "door")]
        for signs in ("", "0", "1", "01" * 24):
            self.assertEqual(way_found(ways, signs), "door")
        for size in (1, 2, 6):
            self.check_rows(ways, size)
        self.assertEqual({door for row, door in way_rows(ways, 48)}, {"door"})
        self.assertEqual(ways_thinned(ways, 48), ways)
        self.assertEqual(ways_thinned([("1", "door")] + ways, 48), ways)

    def test_way_whose_signs_all_go_by_longer_ones(self):
        ways = [("", "any"), ("0", "in"), ("1", "out")]
        self.assertEqual(ways_thinned(ways, 1), ways[1:])
        self.assertEqual(ways_thinned(ways, 48), ways[1:])
        self.assertEqual(way_found(ways, ""), "any")

    def test_to_strike_one_makes_others_needless(self):
        ways = [("00", "a"), ("01", "a"), ("0", "b"), ("", "a")]
        self.assertEqual(ways_thinned(ways, 2), [("", "a")])
        self.assertEqual(ways_thinned(ways[::-1], 9), [("", "a")])

    def test_beginnings_as_long_as_the_size(self):
        ways = [("0" * 12, "a"), ("0" * 11, "b"), ("0" * 11 + "1", "c")]
        self.assertEqual(ways_thinned(ways, 12), [("0" * 12, "a"), ("0" * 11 + "1", "c")])
        self.check_rows(ways, 12)

    def test_long_beginnings(self):
        ways = [("0" * size, "a" if size % 2 else "b") for size in range(49)]
        for size in range(49):
            self.assertEqual(way_found(ways, "0" * size + "1"), "a" if size % 2 else "b")
            self.assertEqual(way_found(ways, "0" * size), "a" if size % 2 else "b")
        self.assertEqual(way_found([("01" * 24, "a")], "01" * 24), "a")
        self.assertIsNone(way_found([("01" * 24, "a")], "01" * 23 + "0"))


class WideWays(Ways):
    def check_wide(self, ways, longest, size):
        """Ways with beginnings up to so long tell no place behind: all signs of that size speak for all."""
        rows = way_rows(ways, size)
        for row, door in rows:
            self.assertEqual((len(row), row[longest:]), (size, "-" * (size - longest)))
            for signs in letters_in(row[:longest]):
                self.assertEqual(door_of(ways, signs), door)
        check_apart(self, [row[:longest] for row, door in rows], longest, all_letters(longest))
        kept = ways_thinned(ways, size)
        self.assertTrue(is_some_in_order(kept, ways))
        doors = doors_of(ways, longest)
        self.assertEqual(doors_of(kept, longest), doors)
        for number in range(len(kept)):
            self.assertNotEqual(doors_of(without(kept, number), longest), doors)

    def test_some_wide_ways(self):
        for size in (12, 31, 48):
            chance = random.Random(size)
            for longest in (1, 4, 6):
                for number in range(10):
                    self.check_wide(some_ways(chance, longest, 20), longest, size)

    def test_twelve_places(self):
        chance = random.Random(12)
        for number in range(2):
            self.check_wide(some_ways(chance, 12, 12), 12, 48)

    def test_three_hundred_ways(self):
        chance = random.Random(300)
        beginnings = chance.sample(all_signs(12), 200) + chance.sample(all_signs(7), 100)
        ways = [(beginning, chance.choice(["a", "b"])) for beginning in dict.fromkeys(beginnings)]
        table = dict(ways)
        rows = way_rows(ways, 48)
        check_apart(self, [row[:12] for row, door in rows], 12, all_letters(12))
        for row, door in rows:
            for signs in letters_in(row[:12]):
                self.assertEqual(self.door_in(table, signs), door)
        kept = ways_thinned(ways, 48)
        self.assertTrue(is_some_in_order(kept, ways))
        doors = [self.door_in(table, signs) for signs in all_letters(12)]
        self.assertEqual([self.door_in(dict(kept), signs) for signs in all_letters(12)], doors)
        for number in range(len(kept)):
            left = dict(without(kept, number))
            self.assertNotEqual([self.door_in(left, signs) for signs in all_letters(12)], doors)

    def door_in(self, table, signs):
        return next((table[signs[:size]] for size in range(12, -1, -1) if signs[:size] in table), None)


class Trees(unittest.TestCase):
    def check_tree(self, tree, ways, asked):
        told = tree.told_ways()
        self.assertEqual(told, sorted(ways))
        self.assertEqual(deep_kinds(told), (list, [(tuple, [str, str])] * len(ways)))
        for signs in asked:
            self.assertEqual(tree.way_at(signs), door_of(ways, signs))
            below = tree.ways_below(signs)
            self.assertEqual(below, sorted(way for way in ways if way[0][:len(signs)] == signs))
            self.assertEqual(deep_kinds(below), (list, [(tuple, [str, str])] * len(below)))

    def tree_of(self, ways):
        tree = Tree()
        for beginning, door in ways:
            self.assertIsNone(tree.put_way(beginning, door))
        return tree

    def test_without_ways(self):
        self.check_tree(Tree(), [], all_signs(3) + ["01" * 24, "1" * 60])
        self.assertEqual(Tree().told_ways(), [])
        self.assertEqual(Tree().ways_below(""), [])
        self.assertIsNone(Tree().way_at(""))
        for signs in all_signs(2):
            check_refused(self, "NoWay", Tree().strike_way, signs)

    def test_each_small_tree(self):
        for ways in all_ways(2, ["a", "b"]):
            self.check_tree(self.tree_of(ways), ways, all_signs(3))
            self.check_tree(self.tree_of(ways[::-1]), ways, all_signs(3))

    def test_order_of_texts(self):
        tree = self.tree_of([("1", "a"), ("01", "b"), ("", "z"), ("10", "c"), ("0", "e"), ("00", "d")])
        self.assertEqual(tree.told_ways(), [("", "z"), ("0", "e"), ("00", "d"), ("01", "b"), ("1", "a"), ("10", "c")])
        self.assertEqual(tree.ways_below("0"), [("0", "e"), ("00", "d"), ("01", "b")])
        self.assertEqual(tree.ways_below("10"), [("10", "c")])
        self.assertEqual(tree.ways_below("11"), [])
        self.assertEqual(tree.ways_below(""), tree.told_ways())

    def test_put_and_strike_by_chance(self):
        chance = random.Random(20)
        beginnings = all_signs(4)
        for number in range(30):
            tree = Tree()
            ways = {}
            for deed in range(60):
                beginning = chance.choice(beginnings)
                door = chance.choice(["a", "b", "c"])
                if chance.random() < 0.6:
                    if beginning in ways:
                        check_refused(self, "Twice", tree.put_way, beginning, door)
                    else:
                        self.assertIsNone(tree.put_way(beginning, door))
                        ways[beginning] = door
                elif beginning in ways:
                    self.assertIsNone(tree.strike_way(beginning))
                    ways.pop(beginning)
                else:
                    check_refused(self, "NoWay", tree.strike_way, beginning)
                self.check_tree(tree, list(ways.items()), chance.sample(beginnings, 4))
            self.check_tree(tree, list(ways.items()), all_signs(5))

    def test_way_without_signs(self):
        tree = self.tree_of([("", "door")])
        self.check_tree(tree, [("", "door")], all_signs(3) + ["01" * 30])
        check_refused(self, "Twice", tree.put_way, "", "other")
        self.assertEqual(tree.way_at(""), "door")
        tree.strike_way("")
        self.check_tree(tree, [], all_signs(2))
        check_refused(self, "NoWay", tree.strike_way, "")

    def test_long_beginnings_and_signs(self):
        ways = [("0" * 48, "a"), ("0" * 47, "b"), ("1" * 48, "c"), ("01" * 24, "d"), ("", "e")]
        asked = [way[0] for way in ways] + ["0" * 46, "0" * 49, "1" * 47, "1" * 100, "01" * 23, "01" * 25]
        self.check_tree(self.tree_of(ways), ways, asked)

    def test_beginnings_that_do_not_fit(self):
        ways = [("", "a"), ("0", "b"), ("01", "c")]
        tree = self.tree_of(ways)
        wrong = OTHER_THINGS + OTHER_SIGNS + ["-", "0-", "-" * 48, "01 ", " 01", "01\n", "\n", "0b1", "2" * 48]
        wrong += [sign + "01" for sign in OTHER_SIGNS] + ["01" + sign for sign in OTHER_SIGNS]
        wrong += ["0" * 49, "01" * 25, "1" * 300, "0" * 48 + "\n", "0" * 48 + "-"]
        for thing in wrong:
            check_refused(self, "Misfit", tree.put_way, thing, "door")
        self.check_tree(tree, ways, all_signs(3))

    def test_what_is_refused_changes_nothing(self):
        ways = [("0", "a"), ("01", "b")]
        tree = self.tree_of(ways)
        check_refused(self, "Twice", tree.put_way, "0", "b")
        check_refused(self, "Twice", tree.put_way, "0", "a")
        check_refused(self, "NoWay", tree.strike_way, "1")
        check_refused(self, "Misfit", tree.put_way, "2", "b")
        self.check_tree(tree, ways, all_signs(3))

    def test_strike_of_texts_that_it_has_not(self):
        ways = [("0", "a"), ("011", "b")]
        tree = self.tree_of(ways)
        for text in ["", "1", "00", "01", "0110", "-", "0-", "2", "a", "0 ", "0\n", "0" * 49, "b"]:
            check_refused(self, "NoWay", tree.strike_way, text)
        self.check_tree(tree, ways, all_signs(4))

    def test_struck_and_put_in_again(self):
        tree = self.tree_of([("0", "a"), ("01", "b")])
        tree.strike_way("01")
        self.assertEqual(tree.way_at("01"), "a")
        check_refused(self, "NoWay", tree.strike_way, "01")
        tree.put_way("01", "c")
        self.check_tree(tree, [("0", "a"), ("01", "c")], all_signs(3))
        tree.strike_way("0")
        self.check_tree(tree, [("01", "c")], all_signs(3))

    def test_trees_have_nothing_in_common(self):
        one = self.tree_of([("0", "a")])
        other = self.tree_of([("0", "b"), ("1", "c")])
        other.strike_way("1")
        self.check_tree(one, [("0", "a")], all_signs(2))
        self.check_tree(other, [("0", "b")], all_signs(2))

    def test_three_hundred_ways_and_somewhat_more(self):
        chance = random.Random(301)
        ways = {}
        while len(ways) < 310:
            signs = "".join(chance.choice("01") for sign in range(48))
            ways[signs[:chance.randint(0, 48)]] = chance.choice(["a", "b", "c"])
        tree = self.tree_of(list(ways.items()))
        asked = sorted(ways)[::9] + ["".join(chance.choice("01") for sign in range(48)) for number in range(20)]
        self.check_tree(tree, list(ways.items()), asked)
        for beginning in sorted(ways)[::2]:
            tree.strike_way(beginning)
            ways.pop(beginning)
        self.check_tree(tree, list(ways.items()), asked)
