"""Explorers: all states to which the fair rows of a yard lead, and the moves between them."""

from onecable.claims import Claims, next_claims
from onecable.errors import NoPlan, TooManyStates, UnknownState
from onecable.means import find_ring, greatest_mean, worths
from onecable.ratios import Ratio
from onecable.rows import Row


class Explorer:
    """The states by their numbers, and for each one its moves.

    A class below has its own `step`. What `step` reads is set before the `__init__` of this
    class is called, since this one finds all states at once.
    """

    def __init__(self, yard, first, most):
        self.yard = yard
        self.most = most
        self.states = []
        self.numbers = {}
        self.graph = []
        # For each state the number and the letter that led to it first, which is by the least row.
        self.origins = []
        self.best_mean = None
        self.best_worths = None
        self.meet(first, None)
        while len(self.graph) < len(self.states):
            self.graph.append(self.explore(len(self.graph)))

    def step(self, state, letter):
        """The next state and the weight of the move, or None if the row would no longer be fair."""
        raise NotImplementedError("only the classes below Explorer are called")

    def table_after(self, table, letter):
        """The table of the claims after the hour of the letter, or None if no plan serves all cars."""
        claims = next_claims(self.yard, Claims(table), letter)
        if claims is None:
            return None
        return claims.table

    def meet(self, state, origin):
        """The number of the state, which is a new one if the state was not found before."""
        if state not in self.numbers:
            if len(self.states) >= self.most:
                raise TooManyStates(self.most)
            self.numbers[state] = len(self.states)
            self.states.append(state)
            self.origins.append(origin)
        return self.numbers[state]

    def explore(self, number):
        """The moves of the state; the states to which they lead are found."""
        entry = []
        for letter in range(self.yard.letter_count):
            after = self.step(self.states[number], letter)
            if after is None:
                entry.append(None)
            else:
                state, weight = after
                entry.append((self.meet(state, (number, letter)), weight))
        return entry

    def __len__(self):
        return len(self.states)

    def __iter__(self):
        return iter(self.states)

    def __contains__(self, x):
        return x in self.numbers

    def __getitem__(self, at):
        self.check_number(at)
        return self.states[at]

    def check_number(self, number):
        """Raises UnknownState if no state has the number."""
        if number < 0 or number >= len(self.states):
            raise UnknownState("no state has this number")

    def number(self, state):
        """The number of the state."""
        if state not in self.numbers:
            raise UnknownState("there is no such state")
        return self.numbers[state]

    def moves(self, number):
        """For each letter the next number and the weight, or None if the row would no longer be fair."""
        self.check_number(number)
        return list(self.graph[number])

    def is_weightless(self):
        """True if the weights of all moves are 0."""
        return all([move is None or move[1] == 0 for entry in self.graph for move in entry])

    def first_weighing(self):
        """The least fair row whose last move has a weight other than 0, or None if there is none."""
        # The states stand in the order of their least rows, so the first move found ends the least row.
        for number, entry in enumerate(self.graph):
            for letter, move in enumerate(entry):
                if move is not None and move[1] != 0:
                    return self.row_to(number) + Row([letter])
        return None

    def row_to(self, number):
        """The least fair row that leads to the state."""
        self.check_number(number)
        letters = []
        at = number
        while at != 0:
            at, letter = self.origins[at]
            letters.append(letter)
        return Row(letters[::-1])

    def track(self, row):
        """The numbers of the states to which the row leads, from 0 on."""
        self.yard.check_row(row)
        numbers = [0]
        for place, letter in enumerate(row):
            move = self.graph[numbers[-1]][letter]
            if move is None:
                raise NoPlan(place)
            numbers.append(move[0])
        return numbers

    def total(self, row):
        """The sum of the weights of the row."""
        numbers = self.track(row)
        return sum([self.graph[number][letter][1] for number, letter in zip(numbers, row)])

    def mean(self):
        """The greatest mean of a ring of the graph."""
        # Kept, as the worths are: both take long, and the graph stays as it is.
        if self.best_mean is None:
            self.best_mean = greatest_mean(self.graph)
        return self.best_mean

    def worth(self, number):
        """The worth of the state."""
        self.check_number(number)
        if self.best_worths is None:
            self.best_worths = worths(self.graph, self.mean())
        return self.best_worths[number]

    def ring(self):
        """The least row to a state, and the letters of a ring with the greatest mean that begins there."""
        number, letters = find_ring(self.graph, self.mean())
        return (self.row_to(number), Row(letters))

    def greatest_totals(self, hours):
        """For each number of hours from 0 to this one, the greatest total from each state on."""
        tables = [[0] * len(self.graph)]
        for _ in range(hours):
            later = tables[-1]
            # int: where a class has an order, as Row does, max takes only plain numbers.
            tables.append([
                max([int(move[1] + later[move[0]]) for move in entry if move is not None]) for entry in self.graph
            ])
        return tables

    def most_in(self, hours):
        """The greatest total of the fair rows with so many letters."""
        return self.greatest_totals(hours)[hours][0]

    def worst_row(self, hours):
        """The least fair row with so many letters that has the greatest total."""
        tables = self.greatest_totals(hours)
        letters = []
        number = 0
        for left in range(hours, 0, -1):
            letter = self.letter_for(number, tables[left - 1], tables[left][number])
            letters.append(letter)
            number, _ = self.graph[number][letter]
        return Row(letters)

    def letter_for(self, number, later, wanted):
        """The least letter whose move reaches the wanted total, where `later` has the totals behind the move."""
        letters = [
            letter for letter, move in enumerate(self.graph[number])
            if move is not None and move[1] + later[move[0]] == wanted
        ]
        return letters[0]

    def bound(self, hours):
        """A number that no total of a fair row with so many letters exceeds."""
        mean = self.mean()
        return (mean * hours + Ratio(self.worth(0), mean.den)) // 1
