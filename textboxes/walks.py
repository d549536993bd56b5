"""Walks from state to state by letters, as long as there are states that were not met before.

A state is a string, an integer, None, or a tuple of such. A function `lead` of a state and a letter returns the next
state, or None if there is none. Letters are told in ascending order: so states are met by their shortest texts, and by
the first one of these, by the alphabet.
"""


def reached(letters, first, lead):
    """Return the list of the states that are met, and for each of them the dict from letters to numbers of states."""
    states = [first]
    numbers = {first: 0}
    moves = []
    while len(moves) < len(states):
        state = states[len(moves)]
        found = {}
        for letter in letters:
            target = lead(state, letter)
            if target is None:
                continue
            if target not in numbers:
                numbers[target] = len(states)
                states.append(target)
            found[letter] = numbers[target]
        moves.append(found)
    return states, moves


def first_text(letters, first, lead, is_wanted):
    """Return the first one, by the alphabet, of the shortest texts that lead to a wanted state, or None."""
    states = [first]
    met = {first: True}
    came = [(0, "")]
    at = 0
    while at < len(states):
        if is_wanted(states[at]):
            return text_to(came, at)
        for letter in letters:
            target = lead(states[at], letter)
            if target is not None and target not in met:
                met[target] = True
                states.append(target)
                came.append((at, letter))
        at += 1
    return None


def text_to(came, at):
    """Return the text to a state by pairs of the number of the state before, and of the letter that led from it."""
    letters = []
    before, letter = came[at]
    while letter != "":
        letters.append(letter)
        before, letter = came[before]
    return "".join(letters[::-1])
