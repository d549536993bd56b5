"""How boxes are put into what is told, and the ways of two programs on which this is told (points 17 and 19).

Seen from its end, a text puts some boxes of each place on its way into what is told: the use of the place, a string of
boxes, ascending. A move and the use behind it tell the use ahead of it, and which letters of its fillings are told. So
the worth of what is told is a sum along the way, however many letters the boxes have.
"""

from textboxes.signs import parts_of
from textboxes.walks import reached


class Uses:
    """The uses of the places of a program, and the worths of what its moves and ends put there."""

    def __init__(self, program, worths):
        self._program = program
        self._worths = worths
        self._fillings = {}
        self._known = {}

    def at_end(self, place):
        """Return the pair of the use of a place at which a text ends and of the worth of its end, or None."""
        end = self._program.end(place)
        return None if end is None else self._split(end)

    def ahead(self, place, letter, use):
        """Return the pair of the use ahead of a move and of the worth that it puts, by the use behind it."""
        key = (place, letter, use)
        if key not in self._known:
            found = [self._filling(place, letter, box) for box in use]
            boxes = sorted("".join([inner for inner, _ in found]))
            self._known[key] = ("".join(boxes), sum([worth for _, worth in found]))
        return self._known[key]

    def _filling(self, place, letter, box):
        key = (place, letter, box)
        if key not in self._fillings:
            _, fillings = self._program.move(place, letter)
            self._fillings[key] = self._split(fillings.get(box, ""))
        return self._fillings[key]

    def _split(self, filling):
        """Return the pair of the boxes of a filling, ascending, and of the worth of its letters."""
        parts = parts_of(filling, self._program.boxes)
        boxes = sorted([part for part in parts if part.isupper()])
        return "".join(boxes), sum([_worth(part, self._worths) for part in parts if part.islower()])


class Ways:
    """The ways of two programs on the same texts, from their first places to ends of both.

    Their nodes are counted from 0 on: a pair of places with its uses. For each node `steps` has a list of tuples: the
    letter, what the worth that the first program puts is more than that of the second one, and the next node. All nodes
    lead to an end. `firsts` is the list of the nodes where a way can begin, `lasts` the dict from those where it can
    end to what the worth of the first end is more than that of the second one.
    """

    def __init__(self, one, two, worths):
        self.steps = []
        self.firsts = []
        self.lasts = {}
        self._nodes = []
        self._numbers = {}
        self._uses = (Uses(one, worths), Uses(two, worths))
        self._pairs, self._moves = _reached_pairs(one, two)
        self._find_lasts()
        self._find_others()

    def _find_lasts(self):
        for number, (place, other) in enumerate(self._pairs):
            found = self._uses[0].at_end(place)
            there = self._uses[1].at_end(other)
            if found is not None and there is not None:
                self.lasts[self._node((number, found[0], there[0]))] = found[1] - there[1]

    def _find_others(self):
        """Find the nodes from which others lead on, from the last ones to the first ones."""
        sources = [[] for _ in self._pairs]
        for number, found in enumerate(self._moves):
            for letter, target in found.items():
                sources[target].append((number, letter))
        at = 0
        while at < len(self._nodes):
            pair, use, other_use = self._nodes[at]
            for number, letter in sources[pair]:
                place, other = self._pairs[number]
                found, worth = self._uses[0].ahead(place, letter, use)
                there, other_worth = self._uses[1].ahead(other, letter, other_use)
                node = self._node((number, found, there))
                self.steps[node].append((letter, worth - other_worth, at))
            at += 1

    def _node(self, node):
        """Return the number of a node."""
        if node not in self._numbers:
            self._numbers[node] = len(self._nodes)
            if node[0] == 0:
                self.firsts.append(len(self._nodes))
            self._nodes.append(node)
            self.steps.append([])
        return self._numbers[node]


def _worth(text, worths):
    """Return the worth of a text; without a dict of worths it is the number of its letters."""
    if worths is None:
        return len(text)
    return sum([worth * text.count(letter) for letter, worth in worths.items()])


def _reached_pairs(one, two):
    """Return the pairs of places to which texts lead that no program refuses, and the moves, as walks tell them."""

    def lead(pair, letter):
        found, there = one.move(pair[0], letter), two.move(pair[1], letter)
        return None if found is None or there is None else (found[0], there[0])

    return reached(one.letters, (one.places[0], two.places[0]), lead)
