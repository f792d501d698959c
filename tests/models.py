"""Plain models of the document's words, against which the tests hold the package.

They take nothing from the package but yards, rows and the tables of the claims.
"""

from fractions import Fraction
from itertools import combinations, product

from onecable.claims import Claims, next_claims


def measure(word, car):
    stay, need, left, want = car
    return {"stay": stay, "need": need, "left": left, "want": want, "here": stay - left, "got": need - want,
            "slack": left - want}[word]


def served_by(terms, cars, width):
    """The indexes of the open cars that a rule with these terms serves."""
    def key(index):
        return [measure(word, cars[index]) * (1 if side == "least" else -1) for side, word in terms]

    return sorted(sorted(range(len(cars)), key=key)[:width])


def hour_by(terms, cars, width):
    """The open cars after an hour under the rule, and what the leaving ones are short."""
    served = served_by(terms, cars, width)
    after = [(stay, need, left - 1, want - (index in served))
             for index, (stay, need, left, want) in enumerate(cars)]
    short = sum(want for _, _, left, want in after if left == 0)
    return tuple(car for car in after if car[2] > 0 and car[3] > 0), short


def table_after(yard, table, letter):
    claims = next_claims(yard, Claims(table), letter)
    return None if claims is None else claims.table


def no_claims(yard):
    return (0,) * 2 ** yard.span


def survey_step(yard, terms, spare=0):
    """A function from a state and a letter to the next state and the weight, or to None."""
    def step(state, letter):
        table = table_after(yard, state[1], letter)
        if table is None:
            return None
        cars, short = hour_by(terms, list(state[0]) + yard.batch(letter), yard.width + spare)
        return (cars, table), short

    return step


def contest_step(yard, first, second):
    def step(state, letter):
        table = table_after(yard, state[2], letter)
        if table is None:
            return None
        one, one_short = hour_by(first, list(state[0]) + yard.batch(letter), yard.width)
        two, two_short = hour_by(second, list(state[1]) + yard.batch(letter), yard.width)
        return (one, two, table), one_short - two_short

    return step


def explored(yard, start, step):
    """The states in the order of point 26, and the moves."""
    states = [start]
    graph = []
    for state in states:
        entry = []
        for letter in range(yard.letter_count):
            after = step(state, letter)
            if after is not None and after[0] not in states:
                states.append(after[0])
            entry.append(None if after is None else (states.index(after[0]), after[1]))
        graph.append(entry)
    return states, graph


def walked(yard, start, step, hours):
    """For each fair row with so many letters, in ascending order: its letters, its last state and its weights."""
    found = []
    for letters in product(range(yard.letter_count), repeat=hours):
        state, weights = start, []
        for letter in letters:
            after = step(state, letter)
            if after is None:
                break
            state = after[0]
            weights.append(after[1])
        else:
            found.append((letters, state, weights))
    return found


def all_rings(graph):
    """All walks that come back to their first node and to no node twice: a node and the indexes of the moves."""
    rings = []

    def go_on(start, node, indexes, met):
        for index, move in enumerate(graph[node]):
            if move is None:
                continue
            if move[0] == start:
                rings.append((start, indexes + [index]))
            elif move[0] not in met:
                go_on(start, move[0], indexes + [index], met | {move[0]})

    for start in range(len(graph)):
        go_on(start, start, [], {start})
    return rings


def ring_mean(graph, ring):
    node, indexes = ring
    total = 0
    for index in indexes:
        node, weight = graph[node][index]
        total += weight
    assert node == ring[0]
    return Fraction(total, len(indexes))


def is_simple_ring(graph, ring):
    """True if the moves lead back to the first node and to no node twice."""
    node, indexes = ring
    met = []
    for index in indexes:
        met.append(node)
        node = graph[node][index][0]
    return len(indexes) > 0 and node == ring[0] and len(set(met)) == len(met)


def greatest_mean_by_walks(graph):
    """The greatest mean of a ring, from the greatest sums of the walks of each length from node 0."""
    many = len(graph)
    sums = [{0: 0}]
    for _ in range(many):
        after = {}
        for node, total in sums[-1].items():
            for move in graph[node]:
                if move is not None and (move[0] not in after or after[move[0]] < total + move[1]):
                    after[move[0]] = total + move[1]
        sums.append(after)
    return max(min(Fraction(last - sums[length][node], many - length)
                   for length in range(many) if node in sums[length])
               for node, last in sums[many].items())


def longest_walks(graph, num, den):
    """For each node the greatest sum of den * weight - num over a walk of at most as many moves as there are nodes."""
    sums = [0] * len(graph)
    for _ in graph:
        sums = [max([0] + [den * move[1] - num + sums[move[0]] for move in entry if move is not None])
                for entry in graph]
    return sums


def totals_from(graph, hours):
    """For each number of hours the greatest sum of the weights from each node."""
    tables = [[0] * len(graph)]
    for _ in range(hours):
        tables.append([max(move[1] + tables[-1][move[0]] for move in entry if move is not None) for entry in graph])
    return tables


def least_worst_letters(graph, hours):
    """The least row of letters with the greatest total."""
    tables = totals_from(graph, hours)
    letters, node = [], 0
    for left in range(hours - 1, -1, -1):
        letter = min(letter for letter, move in enumerate(graph[node])
                     if move is not None and move[1] + tables[left][move[0]] == tables[left + 1][node])
        letters.append(letter)
        node = graph[node][letter][0]
    return letters


def game_answers(yard, state, letter):
    """The dict from each answer to the next state, None for a lost one; None if the letter may not come."""
    pairs, table = state
    after_table = table_after(yard, table, letter)
    if after_table is None:
        return None
    there = list(pairs) + [(left, want) for _, _, left, want in yard.batch(letter)]
    found = {}
    for served in combinations(range(len(there)), min(yard.width, len(there))):
        answer = tuple(sorted(there[index] for index in served))
        after = [(left - 1, want - (index in served)) for index, (left, want) in enumerate(there)]
        after = tuple(sorted(pair for pair in after if pair[1] > 0))
        lost = any(want > left for left, want in after)
        found[answer] = None if lost else (after, after_table)
    return found


def game_states(yard):
    """The set of all states of the game."""
    waiting = [((), no_claims(yard))]
    found = set(waiting)
    while waiting:
        state = waiting.pop()
        for letter in range(yard.letter_count):
            for after in (game_answers(yard, state, letter) or {}).values():
                if after is not None and after not in found:
                    found.add(after)
                    waiting.append(after)
    return found


def game_ranks(yard):
    """The rank of each state that has one: the number of letters with which the foe surely wins."""
    states = game_states(yard)
    after = {state: [game_answers(yard, state, letter) for letter in range(yard.letter_count)] for state in states}
    lost_within = [set()]
    while True:
        now = {state for state in states
               if any(answers is not None
                      and all(follow is None or follow in lost_within[-1] for follow in answers.values())
                      for answers in after[state])}
        if now == lost_within[-1]:
            break
        lost_within.append(now)
    return {state: min(rank for rank, losing in enumerate(lost_within) if state in losing)
            for state in lost_within[-1]}
