"""What letters do with three numbers, and what is read off them by sevens.

A share is the three integers of a point over a fourth one, in lowest terms.
"""

# The rows of each letter, times 7.
MATRICES = {
    "A": ((3, -2, 6), (6, 3, -2), (-2, 6, 3)),
    "B": ((3, 2, -6), (-6, 3, -2), (2, 6, 3)),
    "C": ((3, 2, 6), (-6, 3, 2), (-2, -6, 3)),
    "D": ((3, -2, -6), (6, 3, 2), (2, -6, 3)),
    "a": ((3, 6, -2), (-2, 3, 6), (6, -2, 3)),
    "b": ((3, -6, 2), (2, 3, 6), (-6, -2, 3)),
    "c": ((3, -6, -2), (2, 3, -6), (6, 2, 3)),
    "d": ((3, 6, 2), (-2, 3, -6), (-6, 2, 3)),
}
LETTER_ON = {
    (1, 2, 4): "A",
    (1, 5, 3): "B",
    (1, 5, 4): "C",
    (1, 2, 3): "D",
    (1, 4, 2): "a",
    (1, 3, 5): "b",
    (1, 3, 2): "c",
    (1, 4, 5): "d",
}
# With what a rest by seven gets the rest 1; there is nothing for the rest 0.
TURNED_OVER = (0, 1, 4, 5, 2, 3, 6)


def sevens_in(number):
    """How often 7 divides an integer above 0."""
    powers = [7]
    # Squares keep the row short for numbers with thousands of sevens.
    while number % powers[-1] == 0:
        powers.append(powers[-1] * powers[-1])
    many = 0
    for power in powers[::-1]:
        many = many * 2
        if number % power == 0:
            number = number // power
            many = many + 1
    return many


def line_of(x, y, z):
    """The line of three integers, the first one not divided by 7."""
    factor = TURNED_OVER[x % 7]
    return x * factor % 7, y * factor % 7, z * factor % 7


def led(letter, x, y, z):
    """Where a letter leads three numbers, times 7."""
    (a, b, c), (d, e, f), (g, h, i) = MATRICES[letter]
    return a * x + b * y + c * z, d * x + e * y + f * z, g * x + h * y + i * z


def led_on(letters, x, y, z):
    """Where letters lead three numbers, the last one first, times 7 for each of them."""
    for letter in letters[::-1]:
        x, y, z = led(letter, x, y, z)
    return x, y, z


def power_of_seven(many):
    """The product of so many sevens."""
    number = 1
    for _ in range(many):
        number = number * 7
    return number


def read_off(share):
    """The letters of the word of a share, and the share of its bare point."""
    x, y, z, under = share
    letters = []
    while under % 7 == 0:
        letter = LETTER_ON[line_of(x, y, z)]
        letters.append(letter)
        x, y, z = led(letter.swapcase(), x, y, z)
        # The letter that undoes the point's letter lowers by one: two sevens go, one of them its own.
        x, y, z, under = x // 49, y // 49, z // 49, under // 7
    return "".join(letters), (x, y, z, under)
