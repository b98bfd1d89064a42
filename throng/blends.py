"""Graphs blended by a word, the other of a graph, and the graph under an over."""

from throng.graphs import Writer, graph_of

# By each word the ends of letters that lie in neither graph, in the second
# alone, in the first alone, in both.
WORD_ENDS = {"join": (0, 1, 1, 1), "common": (0, 0, 0, 1), "less": (0, 0, 1, 0), "either": (0, 1, 1, 0)}


class Blender:
    def __init__(self, one, other, ends):
        behind = 1 + max([node[0] for node in one[1] + other[1]], default=0)
        self.one = steps_of(one, behind)
        self.other = steps_of(other, behind)
        self.ends = ends
        self.writer = Writer()
        self.known = {}

    def blended(self, mine, its):
        if mine < 2 and its < 2:
            return self.ends[mine + mine + its]
        pair = (mine, its)
        if pair not in self.known:
            place = min(self.one[mine][0], self.other[its][0])
            # No goes ahead of yes, and the node comes last: the order of a graph's nodes.
            no = self.blended(led_on(self.one, mine, place, 1), led_on(self.other, its, place, 1))
            yes = self.blended(led_on(self.one, mine, place, 2), led_on(self.other, its, place, 2))
            self.known[pair] = self.writer.node_number(place, no, yes)
        return self.known[pair]


# The ends stand as steps behind all places, so that no step waits for them and
# each number is its own index.
def steps_of(graph, behind):
    return [(behind, 0, 0), (behind, 1, 1)] + graph[1]


# A graph that doesn't ask at the place stays where it is.
def led_on(steps, number, place, side):
    return steps[number][side] if steps[number][0] == place else number


def graph_blend(one, other, word):
    blender = Blender(one, other, WORD_ENDS[word])
    root = blender.blended(one[0], other[0])
    return (root, blender.writer.nodes)


def graph_other(graph):
    nodes = [(place, end_turned(no), end_turned(yes)) for place, no, yes in graph[1]]
    return (end_turned(graph[0]), nodes)


def end_turned(number):
    return 1 - number if number < 2 else number


def graph_under(graph, over):
    writer = Writer()
    root = led_under(graph[0], graph[1], over, writer, {})
    return (root, writer.nodes)


def led_under(number, nodes, over, writer, known):
    if number < 2:
        return number
    if number not in known:
        node = nodes[number - 2]
        sign = over[node[0]]
        if sign == "-":
            no = led_under(node[1], nodes, over, writer, known)
            yes = led_under(node[2], nodes, over, writer, known)
            known[number] = writer.node_number(node[0], no, yes)
        else:
            # Whatever the letter has there, the over's sign is what counts.
            side = node[1] if sign == "0" else node[2]
            known[number] = led_under(side, nodes, over, writer, known)
    return known[number]


# Of rows, each told with an over, the letters that lie in the graph once the
# over is written on them.
def graph_before(pairs, graph):
    # Rows with one over are told as one heap, so that there are few graphs to join.
    heaps = {}
    for row, over in pairs:
        heaps.setdefault(over, []).append(row)
    before = (0, [])
    for over, heap in heaps.items():
        some = graph_blend(graph_of(heap), graph_under(graph, over), "common")
        before = graph_blend(before, some, "join")
    return before
