"""Programs for tests, and plain ways of running and judging them, by the words of the document."""

import itertools
import unittest
from fractions import Fraction

from textboxes.errors import BoxError
from textboxes.programs import Program
from textboxes.tables import Table

NAMES = ["on", "off", "place", "a", "z", "abcdefgh"]


def dealt(chance, boxes, targets):
    """Fillings for some boxes, in which each box stands once at most."""
    fillings = {box: [] for box in targets}
    for box in boxes:
        if targets and chance.random() < 0.8:
            fillings[chance.choice(targets)].append(box)
    for signs in fillings.values():
        signs += [chance.choice("abcxyz") for _ in range(chance.randrange(4))]
        chance.shuffle(signs)
    return {box: "".join(signs) for box, signs in fillings.items()}


def some_program(chance):
    """A program that a source of chance picks."""
    letters = "".join(chance.sample("abcde", chance.randint(1, 5)))
    boxes = "".join(chance.sample("ABCXYZ", chance.randint(0, 6)))
    return program_of(chance, letters, boxes, chance.randint(1, 6))


def small_program(chance, letters, most_boxes=2, most_places=3):
    """A small program with these letters that a source of chance picks."""
    boxes = "XYZ"[:chance.randint(0, most_boxes)]
    return program_of(chance, letters, boxes, chance.randint(1, most_places))


def program_of(chance, letters, boxes, many_places):
    """A program with these letters and boxes and so many places."""
    places = chance.sample(NAMES, many_places)
    moves = {}
    for place in places:
        for letter in letters:
            if chance.random() < 0.85:
                targets = [box for box in boxes if chance.random() < 0.9]
                moves[(place, letter)] = (chance.choice(places), dealt(chance, boxes, targets))
    ends = {place: dealt(chance, boxes, ["X"])["X"] for place in places if chance.random() < 0.8}
    return Program(letters, boxes, places, moves, ends)


def parts_for(program):
    """Copies of the moves and of the ends of a program that may be changed."""
    keys = [(place, letter) for place in program.places for letter in program.letters]
    moves = {key: program.move(*key) for key in keys if program.move(*key) is not None}
    ends = {place: program.end(place) for place in program.places if program.end(place) is not None}
    return moves, ends


def with_other_names(program):
    """The same program with other names for its places and boxes, in another order."""
    places = {place: "q" + place[:7] for place in program.places}
    boxes = {box: "STUVW"[at] for at, box in enumerate(program.boxes[::-1])}
    moves, ends = parts_for(program)
    other_moves = {
        (places[place], letter): (places[target], {boxes[box]: put_together(fillings[box], boxes) for box in fillings})
        for (place, letter), (target, fillings) in moves.items()
    }
    other_ends = {places[place]: put_together(end, boxes) for place, end in ends.items()}
    in_order = [places[program.places[0]]] + [places[place] for place in program.places[:0:-1]]
    return Program(program.letters, "".join(boxes.values()), in_order, other_moves, other_ends)


def with_a_place_twice(chance, program):
    """A program that tells the same, in which one place is told twice."""
    twice = chance.choice(program.places)
    moves, ends = parts_for(program)
    for letter in program.letters:
        if (twice, letter) in moves:
            moves[("twice", letter)] = moves[(twice, letter)]
    for key, (target, fillings) in list(moves.items()):
        if target == twice and chance.random() < 0.5:
            moves[key] = ("twice", fillings)
    if twice in ends:
        ends["twice"] = ends[twice]
    return Program(program.letters, program.boxes, list(program.places) + ["twice"], moves, ends)


def with_one_change(chance, program):
    """A program in which one move or one end is another one, or there is none, or one that was not there."""
    moves, ends = parts_for(program)
    place, letter = chance.choice(program.places), chance.choice(program.letters)
    found = moves.pop((place, letter), None)
    kind = chance.randrange(4)
    if kind == 0:
        if found is None:
            moves[(place, letter)] = (chance.choice(program.places), {})
    elif kind == 1:
        moves[(place, letter)] = (chance.choice(program.places), dealt(chance, program.boxes, list(program.boxes)))
    else:
        if found is not None:
            moves[(place, letter)] = found
        if kind == 2 and place in ends:
            del ends[place]
        else:
            ends[place] = dealt(chance, program.boxes, ["X"])["X"]
    return Program(program.letters, program.boxes, program.places, moves, ends)


def twin_of(chance, program):
    """Another program with the same letters, very often one that tells the same of many texts, or of all."""
    kind = chance.randrange(6)
    if kind == 0:
        return with_other_names(program)
    if kind == 1:
        return with_a_place_twice(chance, program)
    if kind == 2:
        return with_one_change(chance, program)
    if kind == 3:
        return with_other_names(with_one_change(chance, with_a_place_twice(chance, program)))
    if kind == 4:
        return with_other_names(with_a_place_twice(chance, program))
    return small_program(chance, program.letters)


def texts_up_to(letters, most):
    """All texts of these letters with at most so many letters, by length, then by the alphabet."""
    return ["".join(text) for many in range(most + 1) for text in itertools.product(sorted(letters), repeat=many)]


def put_together(filling, texts):
    """What a filling says, each box in it replaced by its text."""
    return "".join(texts.get(sign, sign) for sign in filling)


def plainly_behind(program, text):
    """The state behind a text of letters, by the words of point 4."""
    place, texts = program.places[0], {box: "" for box in program.boxes}
    for letter in text:
        move = program.move(place, letter)
        if move is None:
            return None
        place, fillings = move
        texts = {box: put_together(fillings.get(box, ""), texts) for box in program.boxes}
    return place, texts


def plainly_told(program, text):
    """What is told of a text of letters, by the words of point 5."""
    state = plainly_behind(program, text)
    if state is None or program.end(state[0]) is None:
        return None
    return put_together(program.end(state[0]), state[1])


def plain_number(text):
    """The number of a text, by the words of point 12."""
    return 0 if text == "" else 26 * plain_number(text[:-1]) + "abcdefghijklmnopqrstuvwxyz".index(text[-1]) + 1


def plain_marks(program, text):
    """The place and the marks of a state, by the words of point 13 and of the interface."""
    state = plainly_behind(program, text)
    if state is None:
        return None
    found = []
    sets = [chosen for many in range(len(program.boxes) + 1) for chosen in itertools.combinations(program.boxes, many)]
    for chosen in sets:
        width = 1
        for box in chosen:
            width *= 26 ** len(state[1][box])
        found.append(width)
        found += [width * plain_number(state[1][box]) for box in program.boxes if box not in chosen]
    return state[0], found


def pair_and_row(one, two, text):
    """The pair of the places of two programs behind a text, None for one that refused it, and their marks."""
    states = [plain_marks(one, text), plain_marks(two, text)]
    return tuple(state and state[0] for state in states), sum([state[1] for state in states if state], [])


def without_leading(row, basis):
    """What is left of a row once the rows of a basis, each times a fraction, are taken off."""
    row = [Fraction(number) for number in row]
    for at, other in basis:
        if row[at]:
            row = [number - row[at] * by for number, by in zip(row, other)]
    return row


def basis_of(rows):
    """Rows of which the others are sums, each with the index of its first number that is not 0, which is 1."""
    basis = []
    for row in rows:
        rest = without_leading(row, basis)
        leading = [at for at, number in enumerate(rest) if number]
        if leading:
            basis.append((leading[0], [number / rest[leading[0]] for number in rest]))
    return basis


def plainly_enough(one, two, texts):
    """Whether a list of texts is enough for two programs, by the words of point 14."""
    if "" not in texts:
        return False
    rows = {}
    for text in texts:
        pair, row = pair_and_row(one, two, text)
        rows.setdefault(pair, []).append(row)
    bases = {pair: basis_of(found) for pair, found in rows.items()}
    for text in texts:
        for letter in one.letters:
            pair, row = pair_and_row(one, two, text + letter)
            if pair == (None, None):
                continue
            if pair not in rows:
                return False
            if None not in pair and any(without_leading(row, bases[pair])):
                return False
    return True


def plain_origins(program, text):
    """The pairs of the letters of what is told and of their origins, by the words of point 20, or None."""
    place, texts = program.places[0], {box: [] for box in program.boxes}

    def put(filling, origin):
        return [pair for sign in filling for pair in texts.get(sign, [(sign, origin)])]

    for index, letter in enumerate(text):
        move = program.move(place, letter)
        if move is None:
            return None
        place, fillings = move
        texts = {box: put(fillings.get(box, ""), index) for box in program.boxes}
    end = program.end(place)
    return None if end is None else put(end, len(text))


def small_table(chance, letters, most_places=4):
    """A small table with these letters that a source of chance picks."""
    places = chance.sample(["one", "two", "three", "four", "a", "z"], chance.randint(1, most_places))
    share = chance.choice([0.5, 0.8, 1])
    moves = {(place, letter): chance.choice(places) for place in places for letter in letters if chance.random() < share}
    return Table(letters, places, moves, [place for place in places if chance.random() < 0.5])


def plainly_taken(table, text):
    """Whether a table takes a text, by the words of point 15."""
    place = table.places[0]
    for sign in text:
        if sign not in table.letters or (place, sign) not in table.ways():
            return False
        place = table.ways()[(place, sign)]
    return place in table.good


def in_shape_of_least(table):
    """Whether a table has the order and the names of a least one, and moves only to where a good place is reached."""
    hopeful = set(table.good)
    while True:
        more = {place for (place, _), target in table.ways().items() if target in hopeful} - hopeful
        if not more:
            break
        hopeful |= more
    if not hopeful:
        return table.places == ("a",) and not table.ways()
    met = [table.places[0]]
    for place in met:
        for letter in table.letters:
            target = table.step(place, letter)
            if target is not None and target not in met:
                met.append(target)
    names = [text for text in texts_up_to("abcdefghijklmnopqrstuvwxyz", 2) if text][:len(met)]
    return set(table.places) == hopeful and list(table.places) == met == names


def shortest_of(texts):
    """The first one, by the alphabet, of the shortest ones of some texts, or None."""
    return min(texts, key=lambda text: (len(text), text), default=None)


class Kit(unittest.TestCase):
    """What tests of several points need."""

    def raised(self, error, call, *things):
        """The error of this kind that a call raises."""
        with self.assertRaises(error) as caught:
            call(*things)
        self.assertIs(type(caught.exception), error)
        self.assertIsInstance(caught.exception, BoxError)
        return caught.exception
