"""Means: the greatest mean of the rings of a graph, and what the walks of a graph are worth beside it.

A ring is kept as a pair of its first node and the list of the indexes of its moves.
"""

from onecable.ratios import Ratio


def _pairs(entry):
    """A tuple (index, next, weight) for each move of the entry that there is."""
    return [(index, move[0], move[1]) for index, move in enumerate(entry) if move is not None]


def _ring_from(node, picks):
    """The ring that the picked moves form from the node."""
    indexes = []
    at = node
    while len(indexes) == 0 or at != node:
        index, at = picks[at]
        indexes.append(index)
    return (node, indexes)


def _ring_of(picks):
    """A ring of the picked moves, which are None or a pair (index, next) for each node; None if there is no ring."""
    met_from = {}
    for start in range(len(picks)):
        node = start
        while node not in met_from and picks[node] is not None:
            met_from[node] = start
            _, node = picks[node]
        # A node that was met from an earlier start leads to no ring that was not seen then.
        if node in met_from and met_from[node] == start:
            return _ring_from(node, picks)
    return None


def _any_ring(graph):
    """The ring to which the first move of each node leads."""
    firsts = [_pairs(entry)[0] for entry in graph]
    return _ring_of([(index, following) for index, following, _ in firsts])


def _mean_of(graph, ring):
    """The mean of a ring."""
    at, indexes = ring
    total = 0
    for index in indexes:
        at, weight = graph[at][index]
        total += weight
    return Ratio(total, len(indexes))


def _tilted(graph, mean):
    """For each node its moves with the weights by which a ring with this mean weighs 0."""
    return [
        [(index, following, mean.den * weight - mean.num) for index, following, weight in _pairs(entry)]
        for entry in graph
    ]


def _lengthen(moves, sums, picks):
    """Puts a move before the walks found so far where this makes a greater sum, and tells if it did so anywhere."""
    longer = False
    # From the last node on, since the moves of an explorer lead to later nodes first of all.
    for node in reversed(range(len(moves))):
        for index, following, weight in moves[node]:
            if weight + sums[following] > sums[node]:
                sums[node] = weight + sums[following]
                picks[node] = (index, following)
                longer = True
    return longer


def _longest_walks(graph, mean):
    """The greatest sums of the walks from each node, and None; or a ring with a greater mean behind sums so far."""
    moves = _tilted(graph, mean)
    sums = [0] * len(moves)
    picks = [None] * len(moves)
    while _lengthen(moves, sums, picks):
        # Each pick made a sum greater, so a ring of picks weighs more than 0.
        ring = _ring_of(picks)
        if ring is not None:
            return (sums, ring)
    return (sums, None)


def _better_ring(graph, mean):
    """A ring with a greater mean, or None if there is none."""
    _, ring = _longest_walks(graph, mean)
    return ring


def greatest_mean(graph):
    """The greatest mean of a ring of the graph."""
    mean = _mean_of(graph, _any_ring(graph))
    ring = _better_ring(graph, mean)
    while ring is not None:
        mean = _mean_of(graph, ring)
        ring = _better_ring(graph, mean)
    return mean


def worths(graph, mean):
    """The worth of each node, where the mean is the greatest one of the graph."""
    sums, _ = _longest_walks(graph, mean)
    return sums


def find_ring(graph, mean):
    """A node, and the indexes of the moves that are a ring with this mean, the greatest one of the graph."""
    ring = _any_ring(graph)
    while _mean_of(graph, ring) != mean:
        ring = _better_ring(graph, _mean_of(graph, ring))
    return ring
