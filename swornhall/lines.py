"""Lines: a constant, then the factors of four hands, two asked and two left."""

NUMBERS = 9
FACTORS = 8


def worth(line, numbers):
    total = line[0]
    for factor, number in zip(line[1:], numbers):
        total = total + factor * number
    return total


def holds(line, numbers):
    return worth(line, numbers) >= 0


def bare(i):
    return [0] + [1 if factor == i else 0 for factor in range(FACTORS)]


def summed(lines, weights):
    total = [0] * NUMBERS
    for line, weight in zip(lines, weights):
        total = [so_far + number * weight for so_far, number in zip(total, line)]
    return total


def turned(line, eight):
    total = summed(eight, line[1:])
    total[0] = total[0] + line[0]
    return total
