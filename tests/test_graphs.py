"""Points 9, 10 and 11: graphs of choices."""

import itertools
import random
import unittest

from tests.sets import PLACES, all_heaps, all_letters, all_rows, deep_kinds, letters_in, letters_of, some_heaps, spread
from throng.graphs import graph_has, graph_least, graph_of, graph_rows, graph_size
from throng.rows import is_letter, is_row


def written_order(graph):
    """The nodes as point 9 has them written down by whoever starts at the root."""
    root, nodes = graph
    written = []

    def through(number):
        if number > 1:
            place, no, yes = nodes[number - 2]
            through(no)
            through(yes)
            if number not in written:
                written.append(number)

    through(root)
    return [nodes[number - 2] for number in written]


def comes_to(graph, letter):
    root, nodes = graph
    while root > 1:
        place, no, yes = nodes[root - 2]
        root = {"0": no, "1": yes}[letter[place]]
    return root


def ways_to_one(graph, width):
    """The rows of point 11, way by way from the root."""
    root, nodes = graph

    def ways(number):
        if number < 2:
            return [{}] if number == 1 else []
        place, no, yes = nodes[number - 2]
        return [{place: "0", **way} for way in ways(no)] + [{place: "1", **way} for way in ways(yes)]

    return ["".join(way.get(place, "-") for place in range(width)) for way in ways(root)]


class Graphs(unittest.TestCase):
    def check_form(self, graph, width):
        self.assertIs(type(graph), tuple)
        self.assertEqual(len(graph), 2)
        root, nodes = graph
        self.assertIs(type(root), int)
        self.assertIs(type(nodes), list)
        for node in nodes:
            self.assertEqual(deep_kinds(node), (tuple, [int, int, int]))
            place, no, yes = node
            self.assertTrue(0 <= place < width)
            self.assertNotEqual(no, yes)
            for number in (no, yes):
                self.assertTrue(0 <= number < len(nodes) + 2)
                if number > 1:
                    self.assertLess(place, nodes[number - 2][0])
        self.assertEqual(len(set(nodes)), len(nodes))
        self.assertEqual(written_order(graph), nodes)
        self.assertIn(root, (0, 1) if not nodes else (len(nodes) + 1,))

    def check_told(self, graph, width, letters):
        for letter in all_letters(width):
            self.assertEqual(comes_to(graph, letter), 1 if letter in letters else 0)
            self.assertIs(graph_has(graph, letter), letter in letters)
        size = graph_size(graph, width)
        self.assertEqual(size, len(letters))
        self.assertIs(type(size), int)
        rows = graph_rows(graph, width)
        self.assertEqual(deep_kinds(rows), (list, [str] * len(rows)))
        self.assertEqual(rows, ways_to_one(graph, width))
        told = [letter for row in rows for letter in letters_in(row)]
        self.assertEqual(len(told), len(set(told)), "not apart")
        self.assertEqual(set(told), letters)
        self.assertEqual(graph_least(graph, width), min(letters, default=None))

    def check(self, heap, width):
        graph = graph_of(heap)
        self.check_form(graph, width)
        self.check_told(graph, width, letters_of(heap))
        return graph


class WrittenOut(Graphs):
    """Graphs written out by hand, as the document has them."""

    def test_ends(self):
        self.assertEqual(graph_of([]), (0, []))
        self.assertEqual(graph_of(["-"]), (1, []))
        self.assertEqual(graph_of(["-" * 48]), (1, []))
        self.assertEqual(graph_of(["0", "1"]), (1, []))
        self.assertEqual(graph_of(["0-", "-1", "10"]), (1, []))

    def test_one_node(self):
        self.assertEqual(graph_of(["0"]), (2, [(0, 1, 0)]))
        self.assertEqual(graph_of(["1"]), (2, [(0, 0, 1)]))
        self.assertEqual(graph_of(["-" * 47 + "1"]), (2, [(47, 0, 1)]))
        self.assertEqual(graph_of(["-1-", "-11"]), (2, [(1, 0, 1)]))

    def test_no_ahead_of_yes(self):
        self.assertEqual(graph_of(["01", "10"]), (4, [(1, 0, 1), (1, 1, 0), (0, 2, 3)]))
        self.assertEqual(graph_of(["00", "11"]), (4, [(1, 1, 0), (1, 0, 1), (0, 2, 3)]))
        self.assertEqual(graph_of(["1-0", "01-"]), (4, [(1, 0, 1), (2, 1, 0), (0, 2, 3)]))
        self.assertEqual(graph_of(["0-0", "11-"]), (4, [(2, 1, 0), (1, 0, 1), (0, 2, 3)]))

    def test_shared_node(self):
        self.assertEqual(graph_of(["01-1", "1-01"]), (5, [(3, 0, 1), (1, 0, 2), (2, 2, 0), (0, 3, 4)]))
        self.assertEqual(graph_of(["00", "01", "11"]), (3, [(1, 0, 1), (0, 1, 2)]))

    def test_told_of_these(self):
        graph = (4, [(1, 0, 1), (2, 1, 0), (0, 2, 3)])
        self.assertEqual(graph_rows(graph, 3), ["01-", "1-0"])
        self.assertEqual(graph_size(graph, 3), 4)
        self.assertEqual(graph_least(graph, 3), "010")
        self.assertIs(graph_has(graph, "011"), True)
        self.assertIs(graph_has(graph, "001"), False)

    def test_told_of_the_ends(self):
        for width in (1, 2, 48):
            self.assertEqual(graph_rows((0, []), width), [])
            self.assertEqual(graph_rows((1, []), width), ["-" * width])
            self.assertEqual(graph_size((0, []), width), 0)
            self.assertEqual(graph_size((1, []), width), 2 ** width)
            self.assertIsNone(graph_least((0, []), width))
            self.assertEqual(graph_least((1, []), width), "0" * width)
            self.assertIs(graph_has((0, []), "0" * width), False)
            self.assertIs(graph_has((1, []), "1" * width), True)


class SmallGraphs(Graphs):
    def test_each_small_heap(self):
        for width, most in ((1, 3), (2, 3), (3, 2)):
            for heap in all_heaps(width, most):
                self.check(heap, width)

    def test_each_set_of_letters_has_a_graph_of_its_own(self):
        for width in (1, 2, 3):
            letters = all_letters(width)
            graphs = []
            for truths in itertools.product([False, True], repeat=len(letters)):
                heap = [letter for letter, truth in zip(letters, truths) if truth]
                graph = self.check(heap, width)
                self.assertNotIn(graph, graphs)
                graphs.append(graph)

    def test_same_letters_same_graph(self):
        known = {}
        for heap in itertools.chain(all_heaps(2, 4), all_heaps(3, 2)):
            letters = (len(heap[0]) if heap else 0, frozenset(letters_of(heap)))
            graph = graph_of(heap)
            self.assertEqual(known.setdefault(letters, graph), graph)

    def test_some_heaps(self):
        for width in (4, 5, 6, 8):
            for heap in some_heaps(width, width, 30, 12):
                graph = self.check(heap, width)
                letters = sorted(letters_of(heap))
                self.assertEqual(graph_of(letters), graph)
                self.assertEqual(graph_of(letters[::-1]), graph)
                self.assertEqual(graph_of(heap[::-1] + heap), graph)
                self.assertEqual(graph_of(graph_rows(graph, width)), graph)
                if letters:
                    self.assertNotEqual(graph_of(letters[1:]), graph)

    def test_each_two_rows(self):
        graphs = {row: graph_of([row]) for row in all_rows(3)}
        for one in graphs:
            for other in graphs:
                self.assertEqual(graphs[one] == graphs[other], one == other)


class WideGraphs(Graphs):
    def test_some_wide_heaps(self):
        for count in (1, 6, 12):
            for heap in some_heaps(count + 100, count, 10, 20):
                small = graph_of(heap)
                graph = graph_of(spread(heap, PLACES, 48))
                self.check_form(graph, 48)
                self.assertEqual(graph, (small[0], [(PLACES[place], no, yes) for place, no, yes in small[1]]))
                size = len(letters_of(heap))
                self.assertEqual(graph_size(graph, 48), size * 2 ** (48 - count))
                rows = graph_rows(graph, 48)
                self.assertEqual(rows, spread(graph_rows(small, count), PLACES, 48))
                self.assertEqual(rows, ways_to_one(graph, 48))
                least = min(letters_of(heap), default=None)
                self.check_least(graph, least)

    def check_least(self, graph, least):
        if least is None:
            self.assertIsNone(graph_least(graph, 48))
        else:
            wanted = spread([least], PLACES, 48)[0].replace("-", "0")
            self.assertEqual(graph_least(graph, 48), wanted)
            self.assertIs(is_letter(graph_least(graph, 48), 48), True)

    def test_one_graph_at_each_width(self):
        graph = graph_of(["01", "10"])
        for width in range(2, 49):
            self.assertEqual(graph_size(graph, width), 2 ** (width - 1))
            self.assertEqual(graph_rows(graph, width), ["01" + "-" * (width - 2), "10" + "-" * (width - 2)])
            self.assertEqual(graph_least(graph, width), "01" + "0" * (width - 2))

    def test_sizes_of_single_rows(self):
        for told in range(13):
            row = "-" * 20 + "1" * told + "-" * (28 - told)
            self.assertEqual(graph_size(graph_of([row]), 48), 2 ** (48 - told))
            self.assertEqual(graph_rows(graph_of([row]), 48), [row])

    def test_least_goes_by_yes_only_where_it_must(self):
        self.assertEqual(graph_least(graph_of(["1-1", "0-1"]), 3), "001")
        self.assertEqual(graph_least(graph_of(["11-", "1-1"]), 3), "101")
        self.assertEqual(graph_least(graph_of(["1" * 12 + "-" * 36]), 48), "1" * 12 + "0" * 36)

    def test_letter_in_a_graph_of_all_places(self):
        nodes = [(47, 0, 1)]
        for place in range(46, -1, -1):
            nodes.append((place, 0, len(nodes) + 1))
        graph = (len(nodes) + 1, nodes)
        self.assertIs(graph_has(graph, "1" * 48), True)
        for place in range(48):
            self.assertIs(graph_has(graph, "1" * place + "0" + "1" * (47 - place)), False)

    def test_many_rows(self):
        chance = random.Random(9)
        for signs in ("01", "01-", "01------"):
            heap = ["".join(chance.choice(signs) for place in range(12)) for row in range(300)]
            graph = graph_of(heap)
            self.check_form(graph, 12)
            self.check_told(graph, 12, letters_of(heap))

    def test_somewhat_beyond_the_bounds(self):
        chance = random.Random(14)
        heap = ["".join(chance.choice("01-") for place in range(14)) for row in range(320)]
        graph = graph_of(heap)
        self.check_form(graph, 14)
        self.check_told(graph, 14, letters_of(heap))
        self.assertEqual(graph_size(graph, 50), len(letters_of(heap)) * 2 ** 36)
        self.assertIs(is_row(graph_rows(graph, 50)[0], 50), True)
