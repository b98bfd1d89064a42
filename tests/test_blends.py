"""Point 12: graphs blended, the other of a graph, the graph under an over."""

import itertools
import random
import unittest

from tests.sets import PLACES, all_letters, all_rows, deep_kinds, letters_of, moved_graph, plain_graph
from tests.sets import some_heaps, spread
from throng.blends import graph_blend, graph_other, graph_under
from throng.graphs import graph_of, graph_size

# Each word with whether a letter lies in the blend: by whether it lies in the one, and in the other.
WORDS = {
    "join": lambda one, other: one or other,
    "common": lambda one, other: one and other,
    "less": lambda one, other: one and not other,
    "either": lambda one, other: one != other,
}
NONE = (0, [])
ALL = (1, [])


def all_sets(width):
    letters = all_letters(width)
    for truths in itertools.product([False, True], repeat=len(letters)):
        yield frozenset(letter for letter, truth in zip(letters, truths) if truth)


def blend_of(one, other, word, width):
    return {letter for letter in all_letters(width) if WORDS[word](letter in one, letter in other)}


def under_of(letters, over):
    """The letters that lie among these when the over is written on them."""
    return {letter for letter in all_letters(len(over))
            if "".join(mine if its == "-" else its for mine, its in zip(letter, over)) in letters}


class Graphs(unittest.TestCase):
    def same(self, graph, wanted, told_of):
        self.assertEqual(graph, wanted, told_of)
        self.assertEqual(deep_kinds(graph), (tuple, [int, (list, [(tuple, [int] * 3)] * len(wanted[1]))]))

    def check_blends(self, one, other, width):
        for word in WORDS:
            told = graph_blend(plain_graph(one, width), plain_graph(other, width), word)
            self.same(told, plain_graph(blend_of(one, other, word, width), width), (one, other, word))

    def check_other(self, letters, width):
        graph = plain_graph(letters, width)
        self.same(graph_other(graph), plain_graph(set(all_letters(width)) - set(letters), width), letters)
        self.assertEqual(graph_other(graph_other(graph)), graph)

    def check_under(self, letters, over):
        told = graph_under(plain_graph(letters, len(over)), over)
        self.same(told, plain_graph(under_of(letters, over), len(over)), (letters, over))


class Blends(Graphs):
    def test_by_hand(self):
        one = (4, [(1, 0, 1), (2, 1, 0), (0, 2, 3)])
        other = (2, [(1, 0, 1)])
        self.assertEqual(graph_blend(one, other, "join"), (5, [(1, 0, 1), (2, 1, 0), (1, 3, 1), (0, 2, 4)]))
        self.assertEqual(graph_blend(one, other, "common"), (5, [(1, 0, 1), (2, 1, 0), (1, 0, 3), (0, 2, 4)]))
        self.assertEqual(graph_blend(one, other, "less"), (4, [(2, 1, 0), (1, 2, 0), (0, 0, 3)]))
        self.assertEqual(graph_blend(other, one, "less"), (4, [(2, 0, 1), (1, 0, 2), (0, 0, 3)]))

    def test_each_two_small_sets(self):
        for width in (1, 2):
            for one in all_sets(width):
                for other in all_sets(width):
                    self.check_blends(one, other, width)

    def test_some_two_sets_of_width_three(self):
        chance = random.Random(3)
        sets = list(all_sets(3))
        for number in range(1500):
            self.check_blends(chance.choice(sets), chance.choice(sets), 3)

    def test_some_heaps(self):
        for width in (4, 5, 6):
            sets = [letters_of(heap) for heap in some_heaps(width + 12, width, 40, 9)]
            for one, other in zip(sets, sets[1:]):
                self.check_blends(one, other, width)

    def test_ends(self):
        self.assertEqual([graph_blend(NONE, NONE, word) for word in WORDS], [NONE, NONE, NONE, NONE])
        self.assertEqual([graph_blend(NONE, ALL, word) for word in WORDS], [ALL, NONE, NONE, ALL])
        self.assertEqual([graph_blend(ALL, NONE, word) for word in WORDS], [ALL, NONE, ALL, ALL])
        self.assertEqual([graph_blend(ALL, ALL, word) for word in WORDS], [ALL, ALL, NONE, NONE])

    def test_with_an_end_or_itself(self):
        for heap in some_heaps(121, 5, 30, 9):
            graph = graph_of(heap)
            other = graph_other(graph)
            self.assertEqual([graph_blend(graph, NONE, word) for word in WORDS], [graph, NONE, graph, graph])
            self.assertEqual([graph_blend(NONE, graph, word) for word in WORDS], [graph, NONE, NONE, graph])
            self.assertEqual([graph_blend(graph, ALL, word) for word in WORDS], [ALL, graph, NONE, other])
            self.assertEqual([graph_blend(ALL, graph, word) for word in WORDS], [ALL, graph, other, other])
            self.assertEqual([graph_blend(graph, graph, word) for word in WORDS], [graph, graph, NONE, NONE])
            self.assertEqual([graph_blend(graph, other, word) for word in WORDS], [ALL, NONE, graph, ALL])

    def test_wide(self):
        for count in (1, 5, 8):
            sets = [letters_of(heap) for heap in some_heaps(count + 40, count, 8, 20)]
            for one, other in zip(sets, sets[1:]):
                for word in WORDS:
                    told = graph_blend(moved_graph(plain_graph(one, count), PLACES),
                                       moved_graph(plain_graph(other, count), PLACES), word)
                    wanted = moved_graph(plain_graph(blend_of(one, other, word, count), count), PLACES)
                    self.same(told, wanted, (one, other, word))

    def test_places_of_the_one_alone(self):
        one = graph_of(["0" + "-" * 47])
        other = graph_of(["-" * 47 + "1"])
        self.assertEqual(graph_blend(one, other, "join"), (3, [(47, 0, 1), (0, 1, 2)]))
        self.assertEqual(graph_blend(other, one, "join"), (3, [(47, 0, 1), (0, 1, 2)]))
        self.assertEqual(graph_blend(one, other, "common"), (3, [(47, 0, 1), (0, 2, 0)]))
        self.assertEqual(graph_blend(one, other, "less"), (3, [(47, 1, 0), (0, 2, 0)]))
        self.assertEqual(graph_blend(other, one, "less"), (3, [(47, 0, 1), (0, 0, 2)]))
        self.assertEqual(graph_blend(one, other, "either"), (4, [(47, 1, 0), (47, 0, 1), (0, 2, 3)]))

    def test_twelve_places_and_many_rows(self):
        chance = random.Random(12)
        for signs in ("01", "01-", "011-----"):
            one = ["".join(chance.choice(signs) for place in range(12)) for row in range(300)]
            other = ["".join(chance.choice(signs) for place in range(12)) for row in range(300)]
            for word in WORDS:
                letters = blend_of(letters_of(one), letters_of(other), word, 12)
                wide = graph_blend(graph_of(spread(one, PLACES, 48)), graph_of(spread(other, PLACES, 48)), word)
                self.same(wide, moved_graph(graph_of(sorted(letters)), PLACES), word)
                self.assertEqual(graph_size(wide, 48), len(letters) * 2 ** 36)

    def test_somewhat_beyond_the_bounds(self):
        chance = random.Random(14)
        one = ["".join(chance.choice("01-") for place in range(14)) for row in range(320)]
        other = ["".join(chance.choice("01-") for place in range(14)) for row in range(320)]
        for word in WORDS:
            letters = blend_of(letters_of(one), letters_of(other), word, 14)
            self.assertEqual(graph_blend(graph_of(one), graph_of(other), word), graph_of(sorted(letters)))


class Others(Graphs):
    def test_by_hand(self):
        self.assertEqual(graph_other(NONE), ALL)
        self.assertEqual(graph_other(ALL), NONE)
        self.assertEqual(graph_other((2, [(7, 0, 1)])), (2, [(7, 1, 0)]))
        self.assertEqual(graph_other((4, [(1, 0, 1), (2, 1, 0), (0, 2, 3)])),
                         (4, [(1, 1, 0), (2, 0, 1), (0, 2, 3)]))

    def test_each_small_set(self):
        for width in (1, 2, 3):
            for letters in all_sets(width):
                self.check_other(letters, width)

    def test_some_heaps(self):
        for width in (4, 5, 6):
            for heap in some_heaps(width + 24, width, 40, 9):
                self.check_other(letters_of(heap), width)

    def test_wide(self):
        for count in (1, 6, 10):
            for heap in some_heaps(count + 60, count, 8, 20):
                graph = moved_graph(plain_graph(letters_of(heap), count), PLACES)
                left = set(all_letters(count)) - letters_of(heap)
                self.same(graph_other(graph), moved_graph(plain_graph(left, count), PLACES), heap)


class Under(Graphs):
    def test_by_hand(self):
        graph = (4, [(1, 0, 1), (2, 1, 0), (0, 2, 3)])
        self.assertEqual(graph_under(graph, "---"), graph)
        self.assertEqual(graph_under(graph, "0--"), (2, [(1, 0, 1)]))
        self.assertEqual(graph_under(graph, "1--"), (2, [(2, 1, 0)]))
        self.assertEqual(graph_under(graph, "-0-"), (3, [(2, 1, 0), (0, 0, 2)]))
        self.assertEqual(graph_under(graph, "--1"), (3, [(1, 0, 1), (0, 2, 0)]))
        self.assertEqual(graph_under(graph, "01-"), ALL)
        self.assertEqual(graph_under(graph, "00-"), NONE)
        self.assertEqual(graph_under(graph, "110"), ALL)
        self.assertEqual(graph_under(graph, "111"), NONE)

    def test_each_small_set_under_each_over(self):
        for width in (1, 2, 3):
            for letters in all_sets(width):
                for over in all_rows(width):
                    self.check_under(letters, over)

    def test_some_heaps(self):
        chance = random.Random(6)
        for width in (4, 5, 6):
            for heap in some_heaps(width + 36, width, 40, 9):
                for signs in ("01-", "01----"):
                    self.check_under(letters_of(heap), "".join(chance.choice(signs) for place in range(width)))

    def test_over_that_tells_nothing_and_all(self):
        for heap in some_heaps(36, 4, 20, 9):
            graph = graph_of(heap)
            self.assertEqual(graph_under(graph, "----"), graph)
            for letter in all_letters(4):
                self.assertEqual(graph_under(graph, letter), ALL if letter in letters_of(heap) else NONE)

    def test_ends(self):
        for over in ("-", "0", "1", "01-", "-" * 48, "01" * 6 + "-" * 36):
            self.assertEqual(graph_under(NONE, over), NONE)
            self.assertEqual(graph_under(ALL, over), ALL)

    def test_wide(self):
        chance = random.Random(48)
        for count in (1, 5, 8):
            for heap in some_heaps(count + 80, count, 10, 20):
                over = "".join(chance.choice("01--") for place in range(count))
                graph = moved_graph(plain_graph(letters_of(heap), count), PLACES)
                wanted = moved_graph(plain_graph(under_of(letters_of(heap), over), count), PLACES)
                self.same(graph_under(graph, spread([over], PLACES, 48)[0]), wanted, (heap, over))

    def test_over_at_places_that_the_graph_has_not(self):
        graph = graph_of(["-0" + "-" * 46, "-" * 46 + "1-"])
        over = "1-0" + "-" * 44 + "1"
        self.assertEqual(graph_under(graph, over), graph)
        self.assertEqual(graph_under(graph, "-0" + "1" * 9 + "-" * 37), ALL)
        self.assertEqual(graph_under(graph, "-1" + "1" * 9 + "-" * 37), (2, [(46, 0, 1)]))
        self.assertEqual(graph_under(graph, "0" * 9 + "-" * 37 + "01"), ALL)

    def test_twelve_places(self):
        chance = random.Random(120)
        heap = ["".join(chance.choice("01-") for place in range(12)) for row in range(300)]
        graph = graph_of(heap)
        for number in range(10):
            over = "".join(chance.choice("01---") for place in range(12))
            self.assertEqual(graph_under(graph, over), graph_of(sorted(under_of(letters_of(heap), over))))
