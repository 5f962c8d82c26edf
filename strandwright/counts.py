"""How many least rows there are, out of how many each part of the drawing has by itself."""


def product_to(most):
    product = 1
    for number in range(2, most + 1):
        product = product * number
    return product


def power(base, times):
    product = 1
    for step in range(times):
        product = product * base
    return product


def woven(rows):
    # Of pairs (deeds, ways): deeds of unlike parts don't touch one another, so they go in any order.
    count = product_to(sum([deeds for deeds, ways in rows]))
    for deeds, ways in rows:
        count = count // product_to(deeds) * ways
    return count


def zigzag(most):
    # Rows of the numbers 1 to most that go up and down by turns, begun by going up: each step adds up the
    # row of before from its other end.
    row = [1]
    for step in range(most):
        fresh = [0]
        for number in reversed(row):
            fresh.append(fresh[-1] + number)
        row = fresh
    return row[-1]
