"""Programs for tests, and a plain way of running them."""

from textboxes.programs import Program

NAMES = ["on", "off", "place", "a", "z", "abcdefgh"]


def dealt(chance, boxes, targets):
    """Fillings for some boxes, in which each box stands once at most."""
    fillings = {box: [] for box in targets}
    for box in boxes:
        if targets and chance.random() < 0.8:
            fillings[chance.choice(targets)].append(box)
    for signs in fillings.values():
        signs += [chance.choice("abcxyz") for _ in range(chance.randrange(4))]
        chance.shuffle(signs)
    return {box: "".join(signs) for box, signs in fillings.items()}


def some_program(chance):
    """A program that a source of chance picks."""
    letters = "".join(chance.sample("abcde", chance.randint(1, 5)))
    boxes = "".join(chance.sample("ABCXYZ", chance.randint(0, 6)))
    places = chance.sample(NAMES, chance.randint(1, 6))
    moves = {}
    for place in places:
        for letter in letters:
            if chance.random() < 0.85:
                targets = [box for box in boxes if chance.random() < 0.9]
                moves[(place, letter)] = (chance.choice(places), dealt(chance, boxes, targets))
    ends = {place: dealt(chance, boxes, ["X"])["X"] for place in places if chance.random() < 0.8}
    return Program(letters, boxes, places, moves, ends)


def put_together(filling, texts):
    """What a filling says, each box in it replaced by its text."""
    return "".join(texts.get(sign, sign) for sign in filling)


def plainly_behind(program, text):
    """The state behind a text of letters, by the words of point 4."""
    place, texts = program.places[0], {box: "" for box in program.boxes}
    for letter in text:
        move = program.move(place, letter)
        if move is None:
            return None
        place, fillings = move
        texts = {box: put_together(fillings.get(box, ""), texts) for box in program.boxes}
    return place, texts


def plainly_told(program, text):
    """What is told of a text of letters, by the words of point 5."""
    state = plainly_behind(program, text)
    if state is None or program.end(state[0]) is None:
        return None
    return put_together(program.end(state[0]), state[1])
