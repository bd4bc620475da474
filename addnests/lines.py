"""Lines and polynomials of degree 2 in a size n, and cells of them.

A line (a, b) stands for a * n + b. A cell of polynomials is one flat tuple with three numbers a, b, c for each axis,
for a * n * n + b * n + c. Two such tuples are in Python's order as the cells that they stand for are from some n on.
"""

COEFFICIENTS = 3


def line_at(line, number):
    """The value of a line at a number."""
    slope, base = line
    return slope * number + base


def first_below(line, low):
    """The least number from a bound on at which a line is below 0; None if there is none."""
    slope, base = line
    if line_at(line, low) < 0:
        return low
    if slope >= 0:
        return None
    return base // -slope + 1


def last_rise(line):
    """The least number of at least 0 from which on a line is not below 0; None if there is none."""
    slope, base = line
    if slope < 0 or (slope == 0 and base < 0):
        return None
    if slope == 0:
        return 0
    return max(0, -(base // slope))


def flat(lines):
    """A cell of lines as a cell of polynomials."""
    return product((0, 1), lines)


def product(line, lines):
    """A cell of lines, each multiplied by a line, as a cell of polynomials."""
    slope, base = line
    numbers = []
    for a, b in lines:
        numbers.extend([slope * a, slope * b + base * a, base * b])
    return tuple(numbers)


def polynomials(cell):
    """The list of the polynomials of a cell."""
    return [cell[at:at + COEFFICIENTS] for at in range(0, len(cell), COEFFICIENTS)]


def cell_at(cell, number):
    """The cell that a cell of polynomials stands for at a number."""
    return tuple([(a * number + b) * number + c for a, b, c in polynomials(cell)])


def root_below(square):
    """The greatest whole number whose square is at most a number of at least 0."""
    guess = square
    while guess * guess > square:
        guess = (guess + square // guess) // 2
    return guess


def zeros(polynomial):
    """The whole numbers at which a polynomial that is not 0 everywhere is 0."""
    a, b, c = polynomial
    if a == 0:
        return [-c // b] if b != 0 and c % b == 0 else []
    square = b * b - 4 * a * c
    if square < 0:
        return []
    root = root_below(square)
    if root * root != square:
        return []
    tops = [root - b] if root == 0 else [root - b, -root - b]
    return [top // (2 * a) for top in tops if top % (2 * a) == 0]


def first_other(cell):
    """The first polynomial of a cell that is not 0 everywhere."""
    return [polynomial for polynomial in polynomials(cell) if any(polynomial)][0]


def numbers_at_zeros(cell, low):
    """The numbers from a bound on at which a cell of polynomials, not all 0 everywhere, is the cell of zeros."""
    return [number for number in zeros(first_other(cell)) if number >= low and not any(cell_at(cell, number))]


def settled(cell):
    """A number from which on a cell of polynomials, not all 0 everywhere, stays on one side of the cell of zeros."""
    leading, *others = [number for number in first_other(cell) if number != 0]
    return 1 + sum([abs(number) for number in others]) // abs(leading)
