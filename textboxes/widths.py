"""The numbers and widths of texts (point 12 of the document), exactly."""

from textboxes.signs import LETTERS

BASE = 26
CHUNK = 64
AHEAD_OF_A = 96


def width_of(length):
    """Return the width of the texts of so many letters."""
    width = 1
    for at in reversed(range(length.bit_length())):
        width = width * width
        if (length >> at) & 1 == 1:
            width = width * BASE
    return width


def number_of(text):
    """Return the number of a text."""
    numbers = chunk_numbers(text)
    width = width_of(CHUNK)
    # Halves are put together, not letter by letter: so long texts cost only a few products of great numbers.
    while len(numbers) > 1:
        if len(numbers) & 1 == 1:
            numbers = [0] + numbers
        numbers = [numbers[at] * width + numbers[at + 1] for at in range(0, len(numbers), 2)]
        width = width * width
    return numbers[0]


def chunk_numbers(text):
    """Return the numbers of the chunks of a text, which have CHUNK letters each but the first one, which has fewer."""
    first = len(text) & (CHUNK - 1)
    starts = range(first, len(text), CHUNK)
    return [_small_number_of(text[:first])] + [_small_number_of(text[at:at + CHUNK]) for at in starts]


def _small_number_of(text):
    number = 0
    for letter in text:
        number = number * BASE + ord(letter) - AHEAD_OF_A
    return number


def text_of(number):
    """Return the text that has a number."""
    letters = []
    rest = number
    while rest > 0:
        rest, digit = divmod(rest - 1, BASE)
        letters.append(LETTERS[digit])
    return "".join(letters[::-1])
