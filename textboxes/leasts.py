"""The least tables (point 15 of the document), made of numbered states.

States are counted from 0 on, the first of which is where it begins. Their moves are a list of dicts from letters to
numbers of states, and good states are told by a list of True and False.
"""

from textboxes.walks import reached
from textboxes.widths import text_of


def least_parts(letters, moves, good):
    """Return the places, the moves and the good places of the least table that takes the same texts as states do."""
    kept = _hopeful(moves, good)
    numbers = {state: number for number, state in enumerate(kept)}
    if 0 not in numbers:
        return ["a"], {}, []
    kept_moves = [_led_to(moves[state], numbers) for state in kept]
    parts = _alike(letters, kept_moves, [number for number, state in enumerate(kept) if good[state]])

    def lead(part, letter):
        target = kept_moves[parts.members(part)[0]].get(letter)
        return None if target is None else parts.part_of(target)

    met, part_moves = reached(letters, parts.part_of(0), lead)
    names = [text_of(at + 1) for at in range(len(met))]
    ways = {}
    for name, found in zip(names, part_moves):
        for letter, target in found.items():
            ways[(name, letter)] = names[target]
    return names, ways, [name for name, part in zip(names, met) if good[kept[parts.members(part)[0]]]]


def _led_to(found, numbers):
    """Return the moves of a state to those states that have a number, by these numbers."""
    return {letter: numbers[target] for letter, target in found.items() if target in numbers}


def _hopeful(moves, good):
    """Return the list of the states from which a good one can be reached, ascending."""
    sources = [[] for _ in moves]
    for state, found in enumerate(moves):
        for target in found.values():
            sources[target].append(state)
    waiting = [state for state in range(len(moves)) if good[state]]
    hopeful = {state: True for state in waiting}
    while waiting:
        for source in sources[waiting.pop()]:
            if source not in hopeful:
                hopeful[source] = True
                waiting.append(source)
    return sorted(hopeful)


def _alike(letters, moves, good):
    """Return the parts of the states that take the same texts; a good state can be reached from each state."""
    sources = _sources_of(letters, moves)
    parts = Parts(len(moves))
    for state in good:
        parts.mark(state)
    parts.divide()
    # Whatever leads to a part by a letter must be whole parts. Where a part is split behind that, it is enough to ask
    # this once more for the smaller half (Hopcroft's way); so no state is asked about very often.
    waiting = list(range(parts.many()))
    while waiting:
        members = parts.members(waiting.pop())
        for letter in letters:
            for target in members:
                for state in sources[letter].get(target, []):
                    parts.mark(state)
            waiting.extend(parts.divide())
    return parts


def _sources_of(letters, moves):
    """Return for each letter the dict from states to the lists of those from which the letter leads to them."""
    sources = {letter: {} for letter in letters}
    for state, found in enumerate(moves):
        for letter, target in found.items():
            sources[letter].setdefault(target, []).append(state)
    return sources


class Parts:
    """The states in parts, which are split by marking some of the states."""

    def __init__(self, many):
        # The states stand in a row, part by part, the marked ones of each part ahead in it.
        self._ordered = list(range(many))
        self._where = list(range(many))
        self._part = [0] * many
        self._starts = [0]
        self._stops = [many]
        self._marked = [0]
        self._touched = []

    def many(self):
        """Return how many parts there are."""
        return len(self._starts)

    def part_of(self, state):
        """Return the number of the part of a state."""
        return self._part[state]

    def members(self, part):
        """Return the list of the states of a part."""
        return self._ordered[self._starts[part]:self._stops[part]]

    def mark(self, state):
        """Mark a state."""
        part = self._part[state]
        at = self._where[state]
        to = self._starts[part] + self._marked[part]
        if at < to:
            return
        if self._marked[part] == 0:
            self._touched.append(part)
        other = self._ordered[to]
        self._ordered[to], self._ordered[at] = state, other
        self._where[state], self._where[other] = to, at
        self._marked[part] += 1

    def divide(self):
        """Split each part of which only some states are marked, unmark all, and return the list of the new parts.

        A new part is the smaller one of both halves.
        """
        found = []
        for part in self._touched:
            start, stop = self._starts[part], self._stops[part]
            middle = start + self._marked[part]
            self._marked[part] = 0
            if middle == stop:
                continue
            found.append(self.many())
            if middle - start <= stop - middle:
                self._starts[part] = middle
                self._add(start, middle)
            else:
                self._stops[part] = middle
                self._add(middle, stop)
        self._touched = []
        return found

    def _add(self, start, stop):
        """Make what stands in a piece of the row a new part."""
        part = self.many()
        self._starts.append(start)
        self._stops.append(stop)
        self._marked.append(0)
        for at in range(start, stop):
            self._part[self._ordered[at]] = part
