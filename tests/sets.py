"""What the tests hold the program against: letters one by one, told without the program."""

import copy
import itertools
import random

from throng import errors

REFUSALS = ["Misfit", "Twice", "NoField", "NoRule", "NoWay", "NoDoor", "NoHouse", "NoLine", "BadWord", "Unlike"]

# No rows and no letters, of whatever width.
OTHER_THINGS = [
    None, True, False, 0, 1, 2, 10, 101, -1, [], (), [""], ("",), ["0"], ("0",), ["0", "1"], ("0", "1"),
    ["0", "1", "-"], ("0", "1", "-"), [0], (1,), [0, 1], (0, 1), [None], (True,), [["0"]], [("0", "1")],
]
OTHER_SIGNS = [
    "2", "9", "a", "O", "o", "l", "I", " ", "\n", "\r", "\t", "\0", "_", "+", "*", "?", "x", ".", "\u2212",
    "\u2013", "\u00ad", "\uff10", "\uff11", "\u0660", "\u0661", "\u00b9", "\x0b", "\x0c", "\x85", "\u2028", "\u200b",
]

# Twelve places of 48, the first and the last among them.
PLACES = [0, 3, 4, 11, 12, 20, 23, 30, 31, 40, 46, 47]

# Rules and a layout of two places.
PASS = [("--", "pass", "--")]
TO = [("a", 1), ("to", 1)]
HOUSES = ["a", "b", "ab", "hut", "inn", "z", "zz", "longname", "mill", "c"]
END_KINDS = {"drop": [str, str, str, int], "lost": [str] * 3, "out": [str] * 4, "ring": [str] * 2}


def all_letters(width):
    return ["".join(signs) for signs in itertools.product("01", repeat=width)]


def all_rows(width):
    return ["".join(signs) for signs in itertools.product("01-", repeat=width)]


def letters_in(row):
    choices = {"0": "0", "1": "1", "-": "01"}
    return {"".join(signs) for signs in itertools.product(*[choices[sign] for sign in row])}


def letters_of(heap):
    return set().union(*[letters_in(row) for row in heap])


def all_heaps(width, most):
    """Every heap of at most so many rows, those with alike rows too."""
    rows = all_rows(width)
    for count in range(most + 1):
        for heap in itertools.product(rows, repeat=count):
            yield list(heap)


def some_heaps(seed, width, count, most):
    """So many heaps of 0 to most rows, the same ones for the same seed."""
    chance = random.Random(seed)
    signs = ["01-", "01--", "01------"]
    heaps = []
    for number in range(count):
        drawn = chance.choice(signs)
        size = chance.randint(0, most)
        heaps.append(["".join(chance.choice(drawn) for place in range(width)) for row in range(size)])
    return heaps


def spread(heap, places, width):
    """The heap with its signs at these places of so many, and - elsewhere."""
    wide = []
    for row in heap:
        signs = ["-"] * width
        for sign, place in zip(row, places):
            signs[place] = sign
        wide.append("".join(signs))
    return wide


def narrow(row, places):
    return "".join(row[place] for place in places)


def deep_kinds(thing):
    """The kinds of a thing and of all in it, exact, so that a truth is no int."""
    if type(thing) in (list, tuple):
        return (type(thing), [deep_kinds(part) for part in thing])
    return type(thing)


def check_refused(test, kind, function, *given):
    """That it refuses with just this class, under the base, and with none of the others."""
    with test.assertRaises(ValueError) as caught:
        function(*given)
    error = caught.exception
    test.assertIs(type(error), getattr(errors, kind), given)
    test.assertIsInstance(error, errors.ThrongError)
    for name in REFUSALS:
        test.assertEqual(isinstance(error, getattr(errors, name)), name == kind, given)


def check_apart(test, rows, width, letters):
    """That the rows are of the width, are apart, and have just these letters together."""
    told = []
    for row in rows:
        test.assertIs(type(row), str)
        test.assertEqual(len(row), width)
        told.extend(letters_in(row))
    test.assertEqual(len(told), len(set(told)), "not apart")
    test.assertEqual(set(told), set(letters))


def is_some_in_order(some, things):
    left = iter(things)
    return all(any(one == other for other in left) for one in some)


def plain_graph(letters, width):
    """The graph of point 9, by going through all letters."""
    nodes = []

    def number_of(signs):
        if len(signs) == width:
            return 1 if signs in letters else 0
        no = number_of(signs + "0")
        yes = number_of(signs + "1")
        if no == yes:
            return no
        node = (len(signs), no, yes)
        if node not in nodes:
            nodes.append(node)
        return nodes.index(node) + 2

    root = number_of("")
    return (root, nodes)


def moved_graph(graph, places):
    """The graph with its nodes' places led to these."""
    return (graph[0], [(places[place], no, yes) for place, no, yes in graph[1]])


def graph_at(choices, places):
    """The graph of the letters that have one of these choices at the places."""
    return moved_graph(plain_graph(choices, len(places)), places)


def lies_in(letter, row):
    return all(its in (sign, "-") for sign, its in zip(letter, row))


def written(letter, over):
    return "".join(mine if its == "-" else its for mine, its in zip(letter, over))


def first_of(rules, letter):
    """The number of point 15."""
    return next((number for number, rule in enumerate(rules) if lies_in(letter, rule[0])), len(rules))


def door_of(ways, signs):
    """The door of point 19."""
    for size in range(len(signs), -1, -1):
        for beginning, door in ways:
            if beginning == signs[:size]:
                return door
    return None


def places_to(layout):
    """The places of the field "to"."""
    names = [name for name, size in layout for place in range(size)]
    return [place for place, name in enumerate(names) if name == "to"]


def plain_does(layout, house, door, letter):
    """What point 22 tells."""
    rules = dict(house[0])[door]
    number = first_of(rules, letter)
    if number == len(rules) or rules[number][1] == "drop":
        return ("drop", number)
    sent = written(letter, rules[number][2])
    out = door_of(house[1], narrow(sent, places_to(layout)))
    return ("lost",) if out is None else ("sent", out, sent)


def plain_walk(net, house, door, letter):
    """The trail and the end of points 27 and 28."""
    trail = []
    while (house, door, letter) not in trail:
        trail.append((house, door, letter))
        does = plain_does(net[0], dict(net[1])[house], door, letter)
        if does[0] != "sent":
            return (trail, (does[0], house, door) + does[1:])
        other = [spot for line in net[2] if (house, does[1]) in line for spot in line if spot != (house, does[1])]
        if other == []:
            return (trail, ("out", house, does[1], does[2]))
        (house, door), letter = other[0], does[2]
    ring = trail[trail.index((house, door, letter)):]
    return (trail, ("ring", min(name for name, by, signs in ring)))


def fared(end):
    """How a letter fares by point 29 that ends so."""
    return {"out": end, "ring": ("ring",), "lost": ("lost",), "drop": ("lost",)}[end[0]]


def plain_fare(net, house, door, letter):
    return fared(plain_walk(net, house, door, letter)[1])


def plain_fares(net, letters):
    """How each of these letters fares, laid in at each open spot."""
    return {spot + (letter,): plain_fare(net, *spot, letter) for spot in open_of(net) for letter in letters}


def spots_of(net):
    return sorted((name, door) for name, house in net[1] for door, rules in house[0])


def rules_of(net, house, door):
    return dict(dict(net[1])[house][0])[door]


def open_of(net):
    tied = [spot for line in net[2] for spot in line]
    return [spot for spot in spots_of(net) if spot not in tied]


def width_of(net):
    return sum(size for name, size in net[0])


def some_letters(chance, places, width):
    """For each choice at these places a letter that has it."""
    return [filled(chance, row) for row in spread(all_letters(len(places)), places, width)]


def plain_walks(chance, net, places, house, door):
    """For each choice at these places a letter that has it, with its trail and its end."""
    return {narrow(letter, places): (letter,) + plain_walk(net, house, door, letter)
            for letter in some_letters(chance, places, width_of(net))}


def plain_picture(walks, places):
    """The picture of point 32, of the walks of letters that have each choice at the places."""
    choices = {}
    for choice, (letter, trail, end) in walks.items():
        choices.setdefault(end[:3] if end[0] == "out" else end, set()).add(choice)
    return [(end, graph_at(choices[end], places)) for end in sorted(choices)]


def check_classes(test, classes, width, places, heap, walks):
    """That they are a list of point 30 for the heap, which tells with the net none but these places."""
    test.assertIs(type(classes), list)
    beside = [place for place in range(width) if place not in places]
    for one in classes:
        row, end, met = one
        test.assertEqual(deep_kinds(one), (tuple, [str, (tuple, END_KINDS[end[0]]), (list, [str] * len(met))]))
        test.assertEqual((len(row), narrow(row, beside)), (width, "-" * len(beside)))
        if end[0] == "out":
            test.assertEqual((len(end[3]), set(end[3]) - set("01-")), (width, set()))
        for choice in letters_in(narrow(row, places)):
            check_class_has(test, one, *walks[choice])
    check_apart(test, [narrow(row, places) for row, end, met in classes], len(places),
                letters_of([narrow(row, places) for row in heap]))


def check_class_has(test, one, letter, trail, end):
    """That a letter that is walked so ends by the class's end and has met its houses."""
    if end[0] == "out":
        test.assertEqual(one[1][:3] + (written(letter, one[1][3]),), end)
    else:
        test.assertEqual(one[1], end)
    test.assertEqual(one[2], sorted({step[0] for step in trail}))


def some_signs(chance, width, places, signs):
    """A row that tells none but these places."""
    row = ["-"] * width
    for place in places:
        row[place] = chance.choice(signs)
    return "".join(row)


def some_layout(chance, width):
    """Up to four fields of so many places, "to" at any of them."""
    count = chance.randint(1, min(4, width))
    cuts = [0] + sorted(chance.sample(range(1, width), count - 1)) + [width]
    names = chance.sample(["a", "b", "from", "too", "t", "ot"], count)
    names[chance.randrange(count)] = "to"
    return [(name, cuts[number + 1] - cuts[number]) for number, name in enumerate(names)]


def some_places(chance, layout, count):
    """So many places in order, the first ones of the field "to" among them."""
    ahead = places_to(layout)[:chance.randint(0, count)]
    others = [place for place in range(sum(size for name, size in layout)) if place not in ahead]
    return sorted(ahead + chance.sample(others, min(len(others), count - len(ahead))))


def filled(chance, row):
    """A letter of the row."""
    return "".join(chance.choice("01") if sign == "-" else sign for sign in row)


def some_house(chance, layout, places, overs, doors):
    """A house that tells none but these places, and writes at none but those of overs."""
    width = sum(size for name, size in layout)
    words = chance.choice([["pass"], ["pass", "drop"], ["pass", "pass", "pass", "drop"]])
    signs = chance.choice(["01-", "01---"])
    gates = []
    for door in doors:
        rules = [(some_signs(chance, width, places, signs), chance.choice(words),
                  some_signs(chance, width, overs, "01--")) for number in range(chance.randint(0, 4))]
        if chance.random() < 0.7:
            rules.append(("-" * width, "pass", some_signs(chance, width, overs, "01---")))
        gates.append((door, rules))
    return (gates, some_house_ways(chance, layout, places, doors))


def some_house_ways(chance, layout, places, doors):
    longest = next((number for number, place in enumerate(places_to(layout)) if place not in places),
                   len(places_to(layout)))
    beginnings = {"".join(chance.choice("01") for sign in range(chance.randint(0, longest)))
                  for number in range(chance.randint(0, 6))}
    if chance.random() < 0.6:
        beginnings.add("")
    ways = [(beginning, chance.choice(doors)) for beginning in sorted(beginnings) if doors]
    chance.shuffle(ways)
    return ways


def some_net(chance, layout, places, most):
    """A net of up to so many houses that tells none but these places."""
    overs = chance.sample(places, chance.randint(0, min(5, len(places))))
    houses = []
    for name in chance.sample(HOUSES, chance.randint(1, most)):
        doors = chance.sample(["a", "b", "c", "in", "out"], chance.choice([0, 1, 2, 2, 3]))
        houses.append((name, some_house(chance, layout, places, overs, doors)))
    spots = [(name, door) for name, house in houses for door, rules in house[0]]
    chance.shuffle(spots)
    lines = [(spots[2 * number], spots[2 * number + 1]) for number in range(len(spots) // 2)]
    if chance.random() < 0.6:
        lines = lines[:chance.randint(0, len(lines))]
    return (layout, houses, lines)


def passing(door):
    """A house with the doors in and out that passes all letters by that door."""
    return ([("in", list(PASS)), ("out", list(PASS))], [("", door)])


def lines_round(names):
    """From each house's out to the next one's in, and from the last one's to the first one's."""
    return [((name, "out"), (after, "in")) for name, after in zip(names, names[1:] + names[:1])]


def ring_of(names):
    """A net of houses that pass all letters on, in a ring."""
    return (TO, [(name, passing("out")) for name in names], lines_round(names))


def counting(places, count, rest=0):
    """So many houses in a ring: the first counts up by one at so many places, the last asks for the rest's signs."""
    other = "-" * (1 + rest)
    rules = []
    for behind in range(places):
        ahead = "-" * (places - 1 - behind)
        rules.append((ahead + "0" + "1" * behind + other, "pass", ahead + "1" + "0" * behind + other))
    rules.append(("1" * places + other, "pass", "0" * places + other))
    bare = "-" * (places + 1 + rest)
    names = ["h" + sign for sign in "abcdefghij"[:count]]
    houses = [(name, ([("in", [(bare, "pass", bare)]), ("out", [])], [("", "out")])) for name in names]
    if rest:
        houses[-1][1][0][0] = ("in", [(bare[rest:] + letter, "pass", bare) for letter in all_letters(rest)])
    houses[0][1][0][0] = ("in", rules)
    layout = [("count", places), ("to", 1), ("rest", rest)]
    return (layout if rest else layout[:2], houses, lines_round(names))


def with_rules(net, spot, rules):
    net = copy.deepcopy(net)
    gates = dict(net[1])[spot[0]][0]
    gates[[door for door, its in gates].index(spot[1])] = (spot[1], rules)
    return net


def with_ways(net, name, ways):
    return (net[0], [(its, (house[0], ways) if its == name else house) for its, house in net[1]], net[2])


def other_rules(chance, net, places):
    """The net with a rule struck, put in, changed or moved."""
    spots = spots_of(net)
    spot = chance.choice(spots)
    rules = list(rules_of(net, *spot))
    number = chance.randint(0, len(rules))
    overs = sorted({place for each in spots for rule in rules_of(net, *each)
                    for place, sign in enumerate(rule[2]) if sign != "-"})
    rule = (some_signs(chance, width_of(net), places, "01-"), chance.choice(["pass", "drop"]),
            some_signs(chance, width_of(net), overs, "01-"))
    deed = chance.choice(["put", "strike", "change", "move"])
    if deed == "put" or not rules:
        rules.insert(number, rule)
    elif deed == "strike":
        rules.pop(number - 1)
    elif deed == "change":
        rules[number - 1] = rule
    else:
        rules.append(rules.pop(number - 1))
    return with_rules(net, spot, rules)


def other_ways(chance, net, places):
    name, house = chance.choice([pair for pair in net[1] if pair[1][0]])
    ways = some_house_ways(chance, net[0], places, [door for door, rules in house[0]])
    return with_ways(net, name, ways)


def without_rule(net, spot, number):
    rules = rules_of(net, *spot)
    return with_rules(net, spot, rules[:number] + rules[number + 1:])


def drawn_net(chance, width, count=None, most=4):
    """A net with a spot at least, and the places that it tells none but: all, or so many."""
    layout = some_layout(chance, width)
    places = range(width) if count is None else some_places(chance, layout, count)
    net = some_net(chance, layout, places, most)
    while not spots_of(net):
        net = some_net(chance, layout, places, most)
    return net, places


def has_come(end, goal):
    """Whether a letter that ends so comes to the goal."""
    return end[:3] == ("out",) + goal[:2] and any(lies_in(end[3], row) for row in goal[2])


def fares_against(net, demand, letter):
    """Whether the letter, laid in at the demand's spot, fares against it."""
    word, house, door, heap, goal, beside = demand
    trail, end = plain_walk(net, house, door, letter)
    if word == "calm":
        return end[0] == "ring"
    come = has_come(end, goal)
    return {"all": not come, "none": come, "past": come and beside not in [step[0] for step in trail]}[word]


def is_broken(net, demand, letters):
    """Whether one of these letters is of the demand's heap and fares against it."""
    return any(fares_against(net, demand, letter) for letter in letters
               if any(lies_in(letter, row) for row in demand[3]))


def some_rows(chance, width, places, most):
    """Up to so many rows, perhaps the one of all letters."""
    rows = [some_signs(chance, width, places, chance.choice(["01-", "01---"]))
            for number in range(chance.randint(0, most))]
    return rows if chance.random() < 0.8 else ["-" * width]


def some_demand(chance, net, places, word):
    """A demand by that word, with None where the word doesn't look, or else what has no sense there."""
    width = width_of(net)
    spots = spots_of(net)
    goal = chance.choice(chance.choice([spots, open_of(net) or spots])) + (some_rows(chance, width, places, 3),)
    spot = chance.choice([chance.choice(spots), chance.choice(spots), goal[:2]])
    beside = chance.choice([chance.choice(net[1])[0], spot[0]])
    if word == "calm":
        goal = chance.choice([None, ("nohouse", "nodoor", None)])
    if word != "past":
        beside = chance.choice([None, "nohouse", spot[0]])
    return (word,) + spot + (some_rows(chance, width, places, 3), goal, beside)
