"""Points 13 and 14: layouts, and rows told by fields."""

import itertools
import random
import unittest

from tests.sets import OTHER_SIGNS, OTHER_THINGS, all_rows, check_refused, deep_kinds
from throng.fields import field_part, field_row, field_span, layout_width

NAMES = ["a", "to", "t", "tom", "zzzzzzzz", "ot"]
SMALL = [("a", 1), ("to", 2)]


def all_layouts(width):
    """Every layout of so many places, with names in their order."""
    for cuts in itertools.product([False, True], repeat=width - 1):
        sizes = [1]
        for cut in cuts:
            if cut:
                sizes.append(1)
            else:
                sizes[-1] += 1
        yield [(NAMES[number], size) for number, size in enumerate(sizes)]


def names_by_place(layout):
    return [name for name, size in layout for place in range(size)]


def is_plain_row(thing, size):
    return type(thing) is str and len(thing) == size and set(thing) <= set("01-")


def refusal_due(layout, parts):
    """The name of the first refusal that point 14 asks for, or None."""
    sizes = dict(layout)
    for number, (name, signs) in enumerate(parts):
        if name not in sizes:
            return "NoField"
        if name in [earlier for earlier, its in parts[:number]]:
            return "Twice"
        if not is_plain_row(signs, sizes[name]):
            return "Misfit"
    return None


def row_due(layout, parts):
    told = dict(parts)
    return "".join(told.get(name, "-" * size) for name, size in layout)


class Layouts(unittest.TestCase):
    def check(self, layout):
        places = names_by_place(layout)
        self.assertEqual(layout_width(layout), len(places))
        self.assertIs(type(layout_width(layout)), int)
        for name, size in layout:
            first = places.index(name)
            span = field_span(layout, name)
            self.assertEqual(span, (first, first + size))
            self.assertEqual(deep_kinds(span), (tuple, [int, int]))
            self.assertEqual([places[place] for place in range(span[0], span[1])], [name] * size)
        for name in ("no", "aa", "totom", "b", "zzzzzzz"):
            check_refused(self, "NoField", field_span, layout, name)

    def test_each_small_layout(self):
        for width in range(1, 7):
            for layout in all_layouts(width):
                self.check(layout)

    def test_some_wide_layouts(self):
        chance = random.Random(13)
        for number in range(60):
            sizes = [chance.randint(1, 8) for field in range(chance.randint(1, 6))]
            self.check(list(zip(chance.sample(NAMES, len(sizes)), sizes)))

    def test_by_hand(self):
        layout = [("from", 4), ("to", 8), ("word", 36)]
        self.assertEqual(layout_width(layout), 48)
        self.assertEqual(field_span(layout, "from"), (0, 4))
        self.assertEqual(field_span(layout, "to"), (4, 12))
        self.assertEqual(field_span(layout, "word"), (12, 48))

    def test_one_field(self):
        for size in (1, 2, 47, 48):
            self.assertEqual(layout_width([("to", size)]), size)
            self.assertEqual(field_span([("to", size)], "to"), (0, size))
            check_refused(self, "NoField", field_span, [("to", size)], "t")

    def test_fields_of_one_place(self):
        names = [one + other for one in "abcdef" for other in "stuvwxyz"]
        layout = [(name, 1) for name in names]
        self.assertEqual(layout_width(layout), 48)
        for place, name in enumerate(names):
            self.assertEqual(field_span(layout, name), (place, place + 1))

    def test_no_field_at_all(self):
        self.assertEqual(layout_width([]), 0)
        check_refused(self, "NoField", field_span, [], "to")


class RowsByFields(unittest.TestCase):
    def check(self, layout, parts):
        due = refusal_due(layout, parts)
        if due is None:
            row = field_row(layout, parts)
            self.assertIs(type(row), str)
            self.assertEqual(row, row_due(layout, parts), (layout, parts))
        else:
            check_refused(self, due, field_row, layout, parts)

    def test_by_hand(self):
        layout = [("from", 2), ("to", 3), ("mark", 1)]
        self.assertEqual(field_row(layout, []), "------")
        self.assertEqual(field_row(layout, [("to", "01-")]), "--01--")
        self.assertEqual(field_row(layout, [("mark", "1"), ("from", "00")]), "00---1")
        self.assertEqual(field_row(layout, [("to", "111"), ("mark", "0"), ("from", "--")]), "--1110")
        self.assertEqual(field_row(layout, [("to", "---")]), "------")

    def test_each_small_list_of_pairs(self):
        things = ["0", "-", "01", "1-", "", "2", None]
        pairs = [(name, thing) for name in ("a", "to", "no") for thing in things]
        for count in range(3):
            for parts in itertools.product(pairs, repeat=count):
                self.check(SMALL, list(parts))

    def test_some_lists_of_three_and_four_pairs(self):
        chance = random.Random(14)
        pairs = [("a", "0"), ("a", "01"), ("to", "-1"), ("to", "1"), ("tom", "---"), ("tom", ""), ("no", "0")]
        layout = SMALL + [("tom", 3)]
        for number in range(3000):
            self.check(layout, [chance.choice(pairs) for pair in range(chance.randint(3, 4))])

    def test_each_row_of_each_small_layout(self):
        for width in range(1, 5):
            for layout in all_layouts(width):
                for row in all_rows(width):
                    parts = [(name, field_part(layout, name, row)) for name, size in layout]
                    self.assertEqual(field_row(layout, parts), row)
                    self.assertEqual(field_row(layout, parts[::-1]), row)
                    self.check(layout, parts[1:])
                    self.check(layout, parts + parts[:1])

    def test_some_rows_of_widths_to_48(self):
        chance = random.Random(15)
        for number in range(200):
            sizes = [chance.randint(1, 8) for field in range(chance.randint(1, 6))]
            layout = list(zip(chance.sample(NAMES, len(sizes)), sizes))
            named = chance.sample(layout, chance.randint(0, len(layout)))
            self.check(layout, [(name, "".join(chance.choice("01-") for sign in range(size))) for name, size in named])

    def test_one_field(self):
        self.assertEqual(field_row([("to", 48)], [("to", "01" * 24)]), "01" * 24)
        self.assertEqual(field_row([("to", 48)], []), "-" * 48)
        self.assertEqual(field_row([("to", 1)], [("to", "1")]), "1")
        check_refused(self, "Misfit", field_row, [("to", 48)], [("to", "01" * 23)])
        check_refused(self, "Misfit", field_row, [("to", 48)], [("to", "0" * 49)])

    def test_first_pair_at_fault_is_told(self):
        check_refused(self, "Misfit", field_row, SMALL, [("a", "00"), ("no", "0")])
        check_refused(self, "NoField", field_row, SMALL, [("no", "0"), ("a", "00")])
        check_refused(self, "Twice", field_row, SMALL, [("a", "0"), ("a", "0"), ("no", "0")])
        check_refused(self, "Misfit", field_row, SMALL, [("to", "0"), ("to", "00")])

    def test_order_within_a_pair(self):
        check_refused(self, "NoField", field_row, SMALL, [("no", None)])
        check_refused(self, "NoField", field_row, SMALL, [("a", "0"), ("no", 5), ("no", 5)])
        check_refused(self, "Twice", field_row, SMALL, [("a", "0"), ("a", None)])
        check_refused(self, "Twice", field_row, SMALL, [("a", "0"), ("to", "11"), ("a", "")])

    def test_things_of_another_kind(self):
        for thing in OTHER_THINGS + OTHER_SIGNS:
            check_refused(self, "Misfit", field_row, SMALL, [("a", thing)])
            check_refused(self, "Misfit", field_row, SMALL, [("a", "1"), ("to", thing)])
        for sign in OTHER_SIGNS:
            check_refused(self, "Misfit", field_row, SMALL, [("to", "0" + sign)])
            check_refused(self, "Misfit", field_row, SMALL, [("to", "01" + sign)])

    def test_part(self):
        layout = [("from", 2), ("to", 3), ("mark", 1)]
        self.assertEqual(field_part(layout, "from", "01-0-1"), "01")
        self.assertEqual(field_part(layout, "to", "01-0-1"), "-0-")
        self.assertEqual(field_part(layout, "mark", "01-0-1"), "1")
        self.assertEqual(field_part(layout, "to", "010101"), "010")
        check_refused(self, "NoField", field_part, layout, "word", "01-0-1")

    def test_part_of_each_small_row(self):
        for width in range(1, 6):
            for layout in all_layouts(width):
                for row in all_rows(width):
                    wanted = {name: "" for name, size in layout}
                    for name, sign in zip(names_by_place(layout), row):
                        wanted[name] += sign
                    for name in wanted:
                        self.assertEqual(field_part(layout, name, row), wanted[name])
        check_refused(self, "NoField", field_part, [("to", 2)], "a", "01")
        check_refused(self, "NoField", field_part, [], "a", "")

    def test_part_of_wide_rows(self):
        layout = [("a", 1), ("to", 12), ("zz", 34), ("b", 1)]
        row = "1" + "01-" * 4 + "-" * 34 + "0"
        self.assertEqual([field_part(layout, name, row) for name, size in layout],
                         ["1", "01-" * 4, "-" * 34, "0"])
