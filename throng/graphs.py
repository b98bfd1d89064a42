"""Graphs of choices: the one graph of each heap, and what is told of a graph."""

from throng.heaps import heap_narrowed, heap_places, heap_side
from throng.rows import doubled


class Writer:
    def __init__(self):
        self.nodes = []
        self.numbers = {}

    def node_number(self, place, no, yes):
        if no == yes:
            return no
        node = (place, no, yes)
        if node not in self.numbers:
            self.nodes.append(node)
            self.numbers[node] = len(self.nodes) + 1
        return self.numbers[node]


def graph_of(heap):
    places = heap_places(heap)
    writer = Writer()
    root = grown(heap_narrowed(heap, places), places, writer, {})
    return (root, writer.nodes)


# Heaps of two depths can't be mixed up in known: their rows differ in length.
def grown(heap, places, writer, known):
    if heap == []:
        return 0
    if "-" * len(places) in heap:
        return 1
    key = tuple(heap)
    if key not in known:
        # No goes ahead of yes, and the node comes last: the order of a graph's nodes.
        no = grown(heap_side(heap, "0"), places[1:], writer, known)
        yes = grown(heap_side(heap, "1"), places[1:], writer, known)
        known[key] = writer.node_number(places[0], no, yes)
    return known[key]


def graph_has(graph, letter):
    number = graph[0]
    while number > 1:
        node = graph[1][number - 2]
        number = node[1] if letter[node[0]] == "0" else node[2]
    return number == 1


# Both ends stand behind the last place, so that a step to them passes over
# all places that are left.
def graph_places(graph, width):
    return [width, width] + [node[0] for node in graph[1]]


def graph_size(graph, width):
    places = graph_places(graph, width)
    sizes = [0, 1]
    # Nodes stand behind those to which they lead, so these are counted by then.
    for place, no, yes in graph[1]:
        below_no = doubled(sizes[no], places[no] - place - 1)
        below_yes = doubled(sizes[yes], places[yes] - place - 1)
        sizes.append(below_no + below_yes)
    return doubled(sizes[graph[0]], places[graph[0]])


def graph_rows(graph, width):
    places = graph_places(graph, width)
    below = [[], [""]]
    for place, no, yes in graph[1]:
        no_rows = rows_begun("0" + "-" * (places[no] - place - 1), below[no])
        yes_rows = rows_begun("1" + "-" * (places[yes] - place - 1), below[yes])
        below.append(no_rows + yes_rows)
    return rows_begun("-" * places[graph[0]], below[graph[0]])


def rows_begun(signs, rows):
    return [signs + row for row in rows]


def graph_least(graph, width):
    number = graph[0]
    if number == 0:
        return None
    signs = ["0"] * width
    # From each node there is a way to 1, for a graph has no nodes in which no
    # letter lies. So yes is gone by only where no leads to 0 itself.
    while number > 1:
        node = graph[1][number - 2]
        number = node[1]
        if number == 0:
            number = node[2]
            signs[node[0]] = "1"
    return "".join(signs)
