"""Point 2: what is handed in stays as it was, and what is told is the asker's own."""

import copy
import unittest

from tests.sets import deep_kinds
from throng.graphs import graph_has, graph_least, graph_of, graph_rows, graph_size
from throng.heaps import heap_apart, heap_has, heap_less, heap_meet, heap_missing, heap_parted, heap_size
from throng.rows import row_less

HEAPS = [
    [], ["-"], ["0"], ["0", "1"], ["---"], ["01-"], ["1--", "01-", "1--"], ["11-", "0-1", "---"],
    ["0" + "-" * 47, "-" * 47 + "1"], ["111", "000", "010"],
]
OF_ONE = [heap_apart, heap_size, graph_of]
OF_TWO = [heap_meet, heap_less, heap_missing, heap_parted]


def pairs():
    for one in HEAPS:
        for other in HEAPS:
            if not one or not other or len(one[0]) == len(other[0]):
                yield one, other


def calls():
    """Every function that takes a list, with arguments of its own each time."""
    for heap in HEAPS:
        for function in OF_ONE:
            yield function, [list(heap)]
        letter = "0" * (len(heap[0]) if heap else 3)
        yield heap_has, [list(heap), letter]
        yield graph_has, [graph_of(heap), letter]
        for function in (graph_size, graph_rows, graph_least):
            yield function, [graph_of(heap), len(letter)]
    for one, other in pairs():
        for function in OF_TWO:
            yield function, [list(one), list(other)]


def spoil(thing):
    """Changes all lists in a thing."""
    if type(thing) in (list, tuple):
        for part in thing:
            spoil(part)
    if type(thing) is list:
        thing.reverse()
        thing.append("spoiled")
        thing.insert(0, "spoiled")


class Own(unittest.TestCase):
    def test_what_is_handed_in_stays(self):
        for function, given in calls():
            before = copy.deepcopy(given)
            function(*given)
            self.assertEqual(given, before, function)
            self.assertEqual(deep_kinds(given), deep_kinds(before), function)

    def test_what_was_told_stays_when_what_was_handed_in_changes(self):
        for function, given in calls():
            told = function(*given)
            before = copy.deepcopy(told)
            spoil(given)
            self.assertEqual(told, before, function)

    def test_what_was_told_can_be_changed(self):
        for function, given in calls():
            before = copy.deepcopy(given)
            told = function(*given)
            first = copy.deepcopy(told)
            spoil(told)
            self.assertEqual(given, before, function)
            self.assertEqual(function(*given), first, function)

    def test_two_answers_have_no_list_in_common(self):
        for function, given in calls():
            one = function(*given)
            other = function(*given)
            before = copy.deepcopy(other)
            spoil(one)
            self.assertEqual(other, before, function)

    def test_same_heap_as_both(self):
        for heap in HEAPS:
            given = list(heap)
            self.assertEqual(heap_size(heap_meet(given, given)), heap_size(given))
            self.assertEqual(heap_less(given, given), [])
            self.assertIsNone(heap_missing(given, given))
            self.assertIsNone(heap_parted(given, given))
            self.assertEqual(given, heap)

    def test_rows_less_are_own(self):
        for one, other in (("0", "1"), ("-", "1"), ("1", "1"), ("---", "010")):
            first = row_less(one, other)
            before = list(first)
            second = row_less(one, other)
            spoil(first)
            self.assertEqual(second, before)
            self.assertEqual(row_less(one, other), before)

    def test_graph_of_the_ends_is_own(self):
        for heap in ([], ["-"]):
            graph = graph_of(heap)
            graph[1].append((0, 0, 1))
            self.assertEqual(graph_of(heap)[1], [])
