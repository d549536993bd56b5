"""Ropes: texts that are kept as pieces one behind another, for texts that are long, or longer than any store.

A rope is a string, or a Rope. Neither is changed once it is made, so ropes may share what they consist of. Short
strings that come side by side are put together: so a text that grows letter by letter has few pieces, and is written
out as quickly as one that comes at once.
"""

SHORT = 500


class Rope:
    """A string, ropes, and a string behind them."""

    def __init__(self, left, middle, right, length):
        self.left = left
        self.middle = middle
        self.right = right
        self.length = length

    def pieces(self):
        """Return the list of the ropes that the rope consists of, in order."""
        return [self.left, *self.middle, self.right]


def length_of(rope):
    """Return the number of letters of a rope."""
    return len(rope) if isinstance(rope, str) else rope.length


def put_together(one, two):
    """Return the rope of one rope and of another one behind it."""
    if one == "":
        return two
    if two == "":
        return one
    length = length_of(one) + length_of(two)
    if isinstance(one, str):
        return _with_beginning(one, two, length)
    if not isinstance(two, str):
        return Rope("", (one, two), "", length)
    if len(one.right) + len(two) <= SHORT:
        return Rope(one.left, one.middle, one.right + two, length)
    return Rope("", (one,), two, length)


def _with_beginning(text, rope, length):
    """Return the rope of a string and of a rope behind it."""
    if isinstance(rope, str):
        return text + rope if length <= SHORT else Rope(text, (), rope, length)
    if len(text) + len(rope.left) <= SHORT:
        return Rope(text + rope.left, rope.middle, rope.right, length)
    return Rope(text, (rope,), "", length)


def rope_of(ropes):
    """Return the rope of several ropes one behind another."""
    whole = ""
    for rope in ropes:
        whole = put_together(whole, rope)
    return whole


def written(rope):
    """Return the text of a rope."""
    texts = []
    waiting = [rope]
    while waiting:
        piece = waiting.pop()
        if isinstance(piece, str):
            texts.append(piece)
        else:
            waiting.extend(piece.pieces()[::-1])
    return "".join(texts)


def piece_of(rope, first, length):
    """Return the text of so many letters that begins at an index of a rope, or what there is of it."""
    texts = []
    skipped = first
    wanted = length
    waiting = [rope]
    while waiting and wanted > 0:
        piece = waiting.pop()
        many = length_of(piece)
        if many <= skipped:
            skipped -= many
        elif isinstance(piece, str):
            text = piece[skipped:skipped + wanted]
            texts.append(text)
            wanted -= len(text)
            skipped = 0
        else:
            waiting.extend(piece.pieces()[::-1])
    return "".join(texts)


def letters_of(rope):
    """Return the dict from the letters of a rope, ascending, to how often each stands in it."""
    # A rope can stand in others very often: each is asked once, for all the times that it stands in the whole.
    times = {rope: 1}
    for one in _each_ahead_of_its_pieces(rope):
        for piece in one.pieces():
            times[piece] = times.get(piece, 0) + times[one]
    found = {}
    for one, many in times.items():
        if isinstance(one, str):
            for letter in sorted(set(one)):
                found[letter] = found.get(letter, 0) + many * one.count(letter)
    return {letter: found[letter] for letter in sorted(found)}


def _each_ahead_of_its_pieces(rope):
    """Return the list of all that a rope consists of and that is no string, each once, ahead of its pieces."""
    known = {}
    behind = []
    waiting = [(rope, False)]
    while waiting:
        one, is_done = waiting.pop()
        if is_done:
            behind.append(one)
        elif not isinstance(one, str) and one not in known:
            known[one] = True
            waiting.append((one, True))
            waiting.extend([(piece, False) for piece in one.pieces()])
    return behind[::-1]
