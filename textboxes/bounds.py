"""How great determinants of rows of marks can be.

A mark of boxes with so many letters is less than 2 * 26 to the power of this number, and 26 is less than 2 to the power
of 4.7005. A determinant is not greater than the product of the lengths of its rows, nor than that of its columns
(Hadamard's theorem); and such a length is at most the greatest number there times the root of how many there are.
"""

from textboxes.marking import marks_of


class Bound:
    """Tells how many bits no determinant of kept rows, and of one other row that was asked about, exceeds.

    Rows have the marks of two programs; they are told by the lists of the lengths of the boxes of each.
    """

    def __init__(self, one_boxes, two_boxes):
        self._one_shares = _shares(one_boxes)
        self._two_shares = _shares(two_boxes)
        self._one_most = [0 for _ in one_boxes]
        self._two_most = [0 for _ in two_boxes]
        many = len(marks_of(one_boxes)) + len(marks_of(two_boxes))
        self._many = many
        self._slack = 2 + many.bit_length() // 2 + 1
        self._kept = 0
        self._most = 0

    def ask(self, one_lengths, two_lengths):
        """Count a row that is asked about."""
        self._one_most = _greater(self._one_most, one_lengths)
        self._two_most = _greater(self._two_most, two_lengths)
        self._most = max(self._most, self._row_bits(one_lengths, two_lengths))

    def keep(self, one_lengths, two_lengths):
        """Count a row that is kept."""
        self._kept += self._row_bits(one_lengths, two_lengths)

    def bits(self):
        """Return the number of bits."""
        letters = _product_of(self._one_most, self._one_shares) + _product_of(self._two_most, self._two_shares)
        return min(self._kept + self._most, 47005 * letters // 10000 + self._many * self._slack)

    def _row_bits(self, one_lengths, two_lengths):
        return 47005 * max(sum(one_lengths), sum(two_lengths)) // 10000 + self._slack


def _shares(boxes):
    """Return for each box in how many marks its width or its number stands."""
    marks = marks_of(boxes)
    return [len([True for widths, number in marks if box in widths or box == number]) for box in boxes]


def _greater(numbers, others):
    return [max(one, other) for one, other in zip(numbers, others)]


def _product_of(numbers, factors):
    return sum([one * by for one, by in zip(numbers, factors)])
