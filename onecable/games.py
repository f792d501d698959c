"""Games: whether any way of serving leaves nobody short after any fair row of a yard."""

from onecable.claims import Claims, next_claims
from onecable.errors import BadRow, NoPlan, NotHeld, TooManyStates, Unbeaten, UnknownState
from onecable.rows import Row
from onecable.serving import rule_hour

# Above each number of units that a car wants.
_BASE = 16


def _ascending(pairs):
    """The tuple of the pairs in ascending order."""
    # As numbers: where a class has an order, as Row does, sorted takes only plain numbers and strings.
    codes = sorted([int(left * _BASE + want) for left, want in pairs])
    return tuple([(code // _BASE, code % _BASE) for code in codes])


def _longer(begun, pairs):
    """The begun ways (pairs taken, place behind the last one), each with one more of the pairs from its place on."""
    # Of equal pairs only the first one that is left, since the others give the same way.
    return [
        (taken + (pairs[place],), place + 1) for taken, start in begun for place in range(start, len(pairs))
        if place == start or pairs[place] != pairs[place - 1]
    ]


def _choices(pairs, many):
    """All ways to take so many of the ascending pairs, in ascending order and each once."""
    begun = [((), 0)]
    for _ in range(many):
        begun = _longer(begun, pairs)
    return [taken for taken, _ in begun]


def _pairs_after(pairs, answer):
    """The ascending pairs one hour after the answer, or None if it is lost."""
    waiting = list(pairs)
    for pair in answer:
        waiting.remove(pair)
    after = [(left - 1, want) for left, want in waiting]
    after = after + [(left - 1, want - 1) for left, want in answer if want > 1]
    if any([want > left for left, want in after]):
        return None
    return _ascending(after)


class Game:
    """The states (pairs (left, want) of the open cars, table of the claims), and which of them are held."""

    def __init__(self, yard, *, most=400):
        self.yard = yard
        self.most = most
        self.states = []
        self.ranks = {}
        # For each state and each letter what `answers` tells of it.
        self.replies = {}
        self.take_in(((), Claims.none(yard.span).table))
        while len(self.replies) < len(self.states):
            self.find_answers(self.states[len(self.replies)])
        self.rank_all()

    def take_in(self, state):
        """Takes the state among the states if it is not one of them."""
        if state not in self.ranks:
            if len(self.states) >= self.most:
                raise TooManyStates(self.most)
            self.ranks[state] = 0
            self.states.append(state)

    def find_answers(self, state):
        """Finds the answers in the state, and the states to which they lead."""
        replies = [self.replies_to(state, letter) for letter in range(self.yard.letter_count)]
        self.replies[state] = replies
        for pairs in replies:
            if pairs is not None:
                for _, after in pairs:
                    if after is not None:
                        self.take_in(after)

    def replies_to(self, state, letter):
        """A pair (answer, next) for each answer to the letter, or None if the letter may not come."""
        pairs, table = state
        claims = next_claims(self.yard, Claims(table), letter)
        if claims is None:
            return None
        coming = [(left, want) for _, _, left, want in self.yard.batch(letter)]
        there = _ascending([*pairs, *coming])
        # int: where a class has an order, as Row does, min takes only plain numbers.
        many = min([int(self.yard.width), len(there)])
        found = []
        for answer in _choices(there, many):
            after = _pairs_after(there, answer)
            found.append((answer, None if after is None else (after, claims.table)))
        return found

    def rank_all(self):
        """Gives each state that is not held its rank."""
        rank = 1
        losing = self.losing_states(rank)
        while len(losing) > 0:
            for state in losing:
                self.ranks[state] = rank
            rank += 1
            losing = self.losing_states(rank)

    def losing_states(self, rank):
        """The states without a rank in which a letter may come whose answers all lead below the rank."""
        return [
            state for state in self.states if self.ranks[state] == 0 and self.losing_letter(state, rank) is not None
        ]

    def losing_letter(self, state, rank):
        """The least letter for which each answer is lost or leads to a state with a rank below this one, or None."""
        for letter, pairs in enumerate(self.replies[state]):
            if pairs is not None and all([self.is_below(after, rank) for _, after in pairs]):
                return letter
        return None

    def is_below(self, after, rank):
        """True if an answer that leads there is lost or leads to a state with a rank below this one."""
        if after is None:
            return True
        return self.ranks[after] > 0 and self.ranks[after] < rank

    @property
    def holds(self):
        """True if the first state is held."""
        return self.ranks[self.states[0]] == 0

    def __len__(self):
        return len(self.states)

    def __iter__(self):
        return iter(self.states)

    def __contains__(self, x):
        return x in self.ranks

    def check_state(self, state):
        """Raises UnknownState if the state is not a state of the game."""
        if state not in self.ranks:
            raise UnknownState("the game has no such state")

    def rank(self, state):
        """The rank of the state, or 0 if it is held."""
        self.check_state(state)
        return self.ranks[state]

    def answers(self, state, letter):
        """A pair (answer, next) for each answer, or None if the letter may not come."""
        self.check_state(state)
        if not self.yard.has_letter(letter):
            raise BadRow(0)
        pairs = self.replies[state][letter]
        if pairs is None:
            return None
        return list(pairs)

    def choice(self, state, letter):
        """An answer that leads from the held state to a held one."""
        pairs = self.answers(state, letter)
        if pairs is None:
            raise NoPlan(0)
        if self.rank(state) > 0:
            raise NotHeld("the state is not held")
        return [answer for answer, after in pairs if after is not None and self.ranks[after] == 0][0]

    def threat(self, state):
        """The least letter that gives the state its rank, or None if it is held."""
        rank = self.rank(state)
        if rank == 0:
            return None
        return self.losing_letter(state, rank)

    def beat(self, rule):
        """A fair row in whose last hour a car leaves short under the rule."""
        if self.holds:
            raise Unbeaten("the game holds")
        cars = ()
        table = Claims.none(self.yard.span).table
        short = 0
        letters = []
        while short == 0:
            letter = self.letter_against(cars, table)
            letters.append(letter)
            table = next_claims(self.yard, Claims(table), letter).table
            cars, short = rule_hour([*cars, *self.yard.batch(letter)], rule, self.yard.width)
        return Row(letters)

    def letter_against(self, cars, table):
        """The next letter against a rule under which these are the open cars."""
        pairs = [(left, want) for _, _, left, want in cars]
        if any([want > left for left, want in pairs]):
            return 0
        return self.threat((_ascending(pairs), table))
