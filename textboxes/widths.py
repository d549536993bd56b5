"""The numbers and widths of texts (point 12 of the document), exactly."""

from textboxes.signs import LETTERS

BASE = 26
CHUNK = 256


def width_of(length):
    """Return the width of the texts of so many letters."""
    width = 1
    for at in reversed(range(length.bit_length())):
        width = width * width
        if (length >> at) & 1 == 1:
            width = width * BASE
    return width


def number_of(text):
    """Return the number of a text."""
    numbers = chunk_numbers(text)
    width = width_of(CHUNK)
    # Halves are put together, not letter by letter: so long texts cost only a few products of great numbers.
    while len(numbers) > 1:
        if len(numbers) & 1 == 1:
            numbers = [0] + numbers
        numbers = [numbers[at] * width + numbers[at + 1] for at in range(0, len(numbers), 2)]
        width = width * width
    return numbers[0]


def chunk_numbers(text):
    """Return the numbers of the chunks of a text, which have CHUNK letters each but the first one, which has fewer."""
    # Read as a number, a chunk is worked out at once, not letter by letter.
    digits = text.translate(str.maketrans("abcdefghijklmnopqrstuvwxyz", "0123456789abcdefghijklmnop"))
    first = len(text) & (CHUNK - 1)
    more = _more_than_digits(CHUNK)
    starts = range(first, len(text), CHUNK)
    ahead = 0 if first == 0 else int(digits[:first], BASE) + _more_than_digits(first)
    return [ahead] + [int(digits[at:at + CHUNK], BASE) + more for at in starts]


def _more_than_digits(length):
    """Return by how much so many letters, counted from 1 on, are more than so many digits, counted from 0 on."""
    return (width_of(length) - 1) // (BASE - 1)


def text_of(number):
    """Return the text that has a number."""
    letters = []
    rest = number
    while rest > 0:
        rest, digit = divmod(rest - 1, BASE)
        letters.append(LETTERS[digit])
    return "".join(letters[::-1])
