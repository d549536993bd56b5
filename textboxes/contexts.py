"""All texts that a program tells, if they are finitely many (point 19 of the document).

A context is what a text puts, from a place on to an end, around what the boxes have at the place: a filling. Contexts
of the same place that have the same boxes in the same order belong to one node. The number of what is told is a sum of
numbers that depend on the boxes, each times one that depends on the context (as in point 13): so of all contexts of a
node a few are enough to see whether the same is told whatever follows, though boxes have other texts. Then it is enough
to go on with one of these states. So there are few states if few texts are told, however many texts are read.
"""

from textboxes.fields import first_primes, number_modulo, width_modulo
from textboxes.programs import moves_of
from textboxes.signs import parts_of
from textboxes.spans import Span
from textboxes.walks import reached


def texts_told(program):
    """Return the list of all texts that a program tells, by length, then by the alphabet; they are finitely many."""
    contexts = Contexts(program)
    boxes = program.boxes
    found = {}
    numbers = {}
    met = {}
    waiting = [(first, {box: "" for box in first[1]}) for first in contexts.nodes_at(program.places[0])]
    while waiting:
        node, held = waiting.pop()
        told_here = [put_together(context, held, boxes) for context in contexts.kept(node)]
        key = (node, tuple([numbers.setdefault(text, len(numbers)) for text in told_here]))
        if key in met:
            continue
        met[key] = True
        end = program.end(node[0])
        if end is not None and order_of(end, boxes) == node[1]:
            found[put_together(end, held, boxes)] = True
        for fillings, target in contexts.leads(node):
            waiting.append((target, {box: put_together(fillings.get(box, ""), held, boxes) for box in target[1]}))
    return sorted(found, key=lambda text: (len(text), text))


def put_together(filling, texts, boxes):
    """Return a filling with a text, or a filling, in place of each box; boxes that have none are left out."""
    return "".join([texts.get(part, "") if part.isupper() else part for part in parts_of(filling, boxes)])


def order_of(filling, boxes):
    """Return the boxes of a filling, in order."""
    return "".join([part for part in parts_of(filling, boxes) if part.isupper()])


class Contexts:
    """The nodes of a program, some contexts of each, and what leads from node to node.

    A node is a pair of a place and of the boxes whose texts are told, in order.
    """

    def __init__(self, program):
        self._boxes = program.boxes
        self._prime = first_primes(1)[0]
        self._sources = _sources_of(program)
        self._spans = {}
        self._kept = {}
        self._leads = {}
        self._waiting = []
        for place in self._sources:
            end = program.end(place)
            if end is not None:
                self._keep(place, end)
        while self._waiting:
            place, context = self._waiting.pop()
            for source, fillings in self._sources[place]:
                self._keep(source, put_together(context, fillings, self._boxes))

    def nodes_at(self, place):
        """Return the list of the nodes of a place."""
        return [node for node in self._kept if node[0] == place]

    def kept(self, node):
        """Return the list of the contexts that were kept."""
        return list(self._kept[node])

    def leads(self, node):
        """Return the list of the pairs of the fillings that lead to another node and of this node."""
        return list(self._leads.get(node, []))

    def _keep(self, place, context):
        """Keep a context, unless those that were kept say all that it says."""
        order = order_of(context, self._boxes)
        node = (place, order)
        row = self._row(context)
        if node not in self._spans:
            self._spans[node] = Span(len(row), self._prime)
            self._kept[node] = []
            for source, fillings in self._sources[place]:
                ahead = (source, order_of(put_together(order, fillings, self._boxes), self._boxes))
                self._leads.setdefault(ahead, []).append((fillings, node))
        if self._spans[node].take(row):
            self._kept[node].append(context)
            self._waiting.append((place, context))

    def _row(self, context):
        """Return by what the number of what is told depends on the boxes, and its width, modulo a prime."""
        numbers = []
        widths = []
        number = 0
        width = 1
        for part in parts_of(context, self._boxes)[::-1]:
            if part.isupper():
                numbers.append(number)
                widths.append(width)
                number = 0
            else:
                number = number_modulo(part, self._prime) * width
                width = width * width_modulo(len(part), self._prime)
        return [one % self._prime for one in numbers + [number] + widths + [width]]


def _sources_of(program):
    """Return the dict from the places that texts lead to to the lists of pairs of a place and the fillings there."""

    def lead(place, letter):
        found = program.move(place, letter)
        return None if found is None else found[0]

    places, _ = reached(program.letters, program.places[0], lead)
    sources = {place: [] for place in places}
    for (place, _), (target, fillings) in moves_of(program).items():
        if place in sources:
            sources[target].append((place, fillings))
    return sources
