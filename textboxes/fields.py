"""Numbers and widths of texts modulo primes.

Numbers of texts have as many digits as the texts have letters. Whether such numbers are sums of others, each times a
fraction, is decided modulo primes: a determinant that is not 0 modulo a prime is not 0, and one that is 0 modulo
several primes is 0 if their product is greater than it can be.
"""

from math import isqrt

from textboxes.widths import BASE, CHUNK, chunk_numbers

# The primes are k * 2 ** 260 + 1 for these k: for such numbers one power shows that they are primes (Proth's theorem).
# Each k is greater than 64.
POWER = 260
FACTORS = (
    91, 223, 535, 961, 997, 1035, 1095, 1365, 1563, 1593, 1711, 1813, 2317, 2475, 3685, 3835, 4273, 4407, 4593, 4705,
    4713, 5047, 5217, 5361, 5445, 5667, 5991, 6381, 6547, 6607, 6637, 6717, 6895, 7003, 7755, 7867, 7921, 8193, 8253,
    8605, 8955, 9247, 9325, 9457, 9831, 10045, 10093, 10467, 10717, 10975, 11133, 11295, 11431, 11607, 11641, 12075,
    12081, 12085, 12183, 12315, 13167, 13477, 13695, 13923, 14503, 14577, 15117, 15261, 15387, 15651, 15691, 15807,
    15835, 15967, 16087, 16141, 16431, 16467, 16555, 16755, 16773, 16813, 17037, 17571, 18091, 18181, 18267, 18283,
    18357, 18517, 18631, 18703, 18733, 18903, 18991, 19203, 19207, 19453, 19617, 19923, 20035, 20077, 20131, 20413,
    20421, 20853, 20925, 21021, 21123, 21297, 21375, 21501, 21531, 21717, 21813, 21877, 21945, 22185, 22347, 22807,
    22963, 23103, 23197, 23221, 23265, 23601, 23677, 23851, 23911, 24165, 24355, 24361, 24555, 25081, 25147, 25285,
    26041, 26197, 26791, 26973, 27105, 27313, 27547, 27657, 28095, 28161, 28237, 28477, 28507, 28627, 29227, 29235,
    29371, 29761, 30115, 30433, 30607, 30993, 31167, 31335, 31395, 31501, 31573, 31725, 32101, 32137, 32145, 32371,
    32433, 32491, 32551, 32841, 32971, 33007, 33135, 33313, 33405, 33513, 33741, 33807, 34413, 34467, 34917, 34947,
    35161, 35217, 35443, 35515, 35533, 36001, 36295, 36303, 36355, 36361, 36477, 36841, 37341, 37683, 37701, 37761,
    38487, 38677, 38805, 39385, 39525, 39531, 40095, 40153, 40641, 40747, 40995, 41217, 41283, 41325, 41367, 41811,
    41877, 41943, 42301, 42441, 42457, 42483, 42853, 43137, 43653, 44047, 44113, 44475, 45273, 45303, 45597, 45933,
    46123, 46393, 46483, 46767, 47011, 47071, 47361, 47401, 47547, 47725, 47823, 47835, 47935, 48211, 48363, 48415,
    48765, 49053, 49717, 49815, 50023, 50187, 50317, 50361, 50451, 50551, 50787, 51013, 51153, 51187, 51213, 51267,
    51667, 52093, 52303, 52593, 52605, 53097, 53461, 53697, 53761, 54093, 54147, 54217, 54301, 54315, 54573, 54957,
    55005, 55017, 55111, 56097, 56227, 56545, 56685, 56821, 56851, 57057, 57253, 57471, 57963, 58213, 58477, 58597,
    58683, 58755, 58843, 58885, 59647, 59691, 59713, 60027, 60087, 60141, 60363, 60397, 60501, 60615, 60721, 60747,
    61135, 61363, 61447, 61635, 61701, 61987, 62143, 62367, 63043, 63093, 63297, 63373, 63391, 63511, 63525, 63627,
    63715, 63891, 64435, 64455, 64611, 65011, 65793, 66585, 67743, 67767, 67777, 68293, 68361, 68373, 68853, 69127,
    69265, 69297, 69537, 69883, 69961, 70693, 71325, 72061, 72307, 72655, 72801, 72811, 72991, 73087, 73315, 73651,
    73735, 73825, 74125, 74193, 74607, 74785, 75265, 75273, 75663, 75715, 75915, 75925, 75933, 75975, 76143, 76167,
    76461, 76665, 76785, 77007, 77077, 77311, 77497, 77535, 77583, 78171, 78315, 78343, 78577, 78865, 79033, 79065,
    79095, 79435, 79695, 79983, 80161, 81045, 81087, 81141, 81735, 82401, 82615, 83155, 83493, 83547, 83763, 83827,
    83955, 84037, 84235, 84265, 85053, 85113, 85201, 85263, 85467, 85633, 85665, 85813, 85947, 86011, 86043, 86341,
    87397, 87621, 87717, 87745, 88057, 88147, 88203, 88497, 88585, 88767, 88831, 89127, 89335, 89365, 89595, 90003,
    90201, 90313, 90315, 90343, 90345, 90901, 91071, 91447, 91825, 91851, 92227, 92395, 92523, 92857, 93765, 93775,
    94035, 94087, 94207, 94275, 94333, 94531, 94707, 94927, 95223, 95241, 95257, 95425, 95497, 95563, 96043, 96063,
    96277, 96307, 97663, 97815, 98161, 98311, 98421, 98811, 99127, 99217, 99507, 99523, 99591, 99663, 99877, 100093,
    100153, 100453, 100543, 100545, 100555, 100831, 100971, 101181, 101271, 101341, 101461, 101625, 101647, 101745,
    102187, 102591, 102655, 102727, 102825, 102873, 103011, 103141, 103203, 103471,
)


def first_primes(many):
    """Return the list of the first so many primes, or of all that are known."""
    return [(factor << POWER) + 1 for factor in FACTORS[:many]]


def primes_for(bits):
    """Return how many primes have a product that is certainly greater than 2 ** bits."""
    return bits // (POWER + 6) + 1


def width_modulo(length, prime):
    """Return the width of the texts of so many letters modulo a prime."""
    width = 1
    for at in reversed(range(length.bit_length())):
        width = width * width % prime
        if (length >> at) & 1 == 1:
            width = width * BASE % prime
    return width


def number_modulo(text, prime):
    """Return the number of a text modulo a prime."""
    width = width_modulo(CHUNK, prime)
    number = 0
    for one in chunk_numbers(text):
        number = (number * width + one) % prime
    return number


def inverse_of(number, prime):
    """Return what a number must be multiplied with for 1 modulo a prime."""
    return _divided_until(prime, number % prime, 1)[1] % prime


def fraction_of(residue, modulus):
    """Return the pair of small numbers whose quotient is a number modulo another one, or None."""
    most = isqrt(modulus // 2)
    top, bottom = _divided_until(modulus, residue, most)
    if abs(bottom) > most:
        return None
    return (top, bottom) if bottom > 0 else (-top, -bottom)


def _divided_until(modulus, number, most):
    """Return the first rest of Euclid's algorithm that is not greater than `most`, and how often it has the number."""
    high, low = modulus, number
    above, below = 0, 1
    while low > most:
        times = high // low
        high, low = low, high - times * low
        above, below = below, above - times * below
    return low, below


def steps_of(primes):
    """Return for each prime the pair of the product of those before and of its inverse modulo the prime."""
    found = []
    product = 1
    for prime in primes:
        found.append((product, inverse_of(product, prime)))
        product = product * prime
    return found


def combined(residues, primes, steps):
    """Return the number that has these residues modulo the primes, by the steps of the primes."""
    number = 0
    for residue, prime, (product, inverse) in zip(residues, primes, steps):
        number += product * ((residue - number) * inverse % prime)
    return number
