"""Great texts as strides: what the moves for very many letters put together (points 10 and 20 of the document)."""

from textboxes.steps import Steps, composed, filled


class Stride:
    """What the moves for some letters put together: `fillings` in parts; `length` tells for how many letters.

    A stride for a text that is read letter by letter has the pair of the place where it begins and of the text as its
    `block`; another one has the two strides that it consists of as its `halves`.
    """

    def __init__(self, fillings, length, block, halves):
        self.fillings = fillings
        self.length = length
        self.block = block
        self.halves = halves


def both_strides(first, then):
    """Return the stride that consists of two ones, one behind another."""
    return Stride(composed(first.fillings, then.fillings), first.length + then.length, None, (first, then))


class GreatSteps:
    """The steps of a program along the parts of great texts."""

    def __init__(self, program):
        self._steps = Steps(program)
        self._ways = {}
        self._doubled = {}

    def told(self, parts):
        """Return the rope of what is told of a great text, or None."""
        return self._steps.ended(self.behind(parts))

    def behind(self, parts):
        """Return the state behind a great text, or None."""
        found = self.strides(parts)
        if found is None:
            return None
        place, strides = found
        _, ropes = self._steps.first()
        for stride in strides:
            ropes = filled(stride.fillings, ropes)
        return place, ropes

    def strides(self, parts):
        """Return the pair of the place behind a great text and of the list of the strides to it, or None."""
        place, _ = self._steps.first()
        strides = []
        for text, many in parts:
            found = self._repeated(place, text, many)
            if found is None:
                return None
            place, more = found
            strides.extend(more)
        return place, strides

    def _repeated(self, place, text, many):
        """Return the pair of the place behind reading a text so many times and of the strides to it, or None."""
        met = {}
        path = []
        strides = []
        while len(path) < many and place not in met:
            met[place] = len(path)
            found = self._way(place, text)
            if found is None:
                return None
            path.append(place)
            place, stride = found
            strides.append(stride)
        if len(path) == many:
            return place, strides
        # From here on the places come again and again in the same order.
        ring = path[met[place]:]
        rounds, rest = divmod(many - len(path), len(ring))
        strides.extend(self._rounds(ring, text, rounds))
        for one in ring[:rest]:
            place, stride = self._way(one, text)
            strides.append(stride)
        return place, strides

    def _way(self, place, text):
        """Return the pair of the place to which a text leads and of the stride to it, or None."""
        key = (place, text)
        if key not in self._ways:
            found = self._steps.along(place, text)
            self._ways[key] = None if found is None else (found[0], Stride(found[1], len(text), key, None))
        return self._ways[key]

    def _rounds(self, ring, text, rounds):
        """Return the list of the strides that go through a ring of places so many times."""
        return [self._round(ring, text, at) for at in range(rounds.bit_length()) if (rounds >> at) & 1 == 1]

    def _round(self, ring, text, doublings):
        """Return the stride through a ring, doubled so many times."""
        key = (ring[0], text)
        if key not in self._doubled:
            whole = self._way(ring[0], text)[1]
            for place in ring[1:]:
                whole = both_strides(whole, self._way(place, text)[1])
            self._doubled[key] = [whole]
        known = self._doubled[key]
        while len(known) <= doublings:
            known.append(both_strides(known[-1], known[-1]))
        return known[doublings]
