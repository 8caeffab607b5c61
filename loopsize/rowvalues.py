"""Rows of formulas: (w0, w1, ..) has at t the value w0 + w1 * t + w2 * t * (t - 1) / 2 + ..

The row (w1, w2, ..) has at t what the value grows by from t to t + 1; so a row rises and falls as that one is above
and below 0.
"""

from math import comb


def row_value(row, t):
    return sum([w * comb(t, j) for j, w in enumerate(row)])


def differences(values):
    """The row that has these values at 0, 1, and so on."""
    told = []
    while values:
        told.append(values[0])
        values = [high - low for low, high in zip(values, values[1:])]
    return told


def moved_back(row, t):
    """The row that has at t + u the value of the given one at u."""
    told = []
    for place in range(len(row)):
        parts = []
        for k in range(len(row) - place):
            sign = -1 if k % 2 == 1 else 1
            ways = comb(t + k - 1, k) if k > 0 else 1
            parts.append(sign * ways * row[place + k])
        told.append(sum(parts))
    return told


def sign_of(number):
    if number == 0:
        return 0
    return 1 if number > 0 else -1


def first_at_least(row, bound, low, high):
    """The least t from low on at which a row that does not fall reaches the bound; it does so at high at the last,
    or, if high is None, somewhere."""
    if high is None:
        reach = 1
        while row_value(row, low + reach) < bound:
            reach = 2 * reach
        high = low + reach
    while low < high:
        middle = (low + high) // 2
        if row_value(row, middle) >= bound:
            high = middle
        else:
            low = middle + 1
    return low


def stretches(row):
    """The stretches of t from 0 on in which the value of a row has one sign: pairs (first t, sign), in order."""
    if len(row) == 1:
        return [(0, sign_of(row[0]))]
    growth = stretches(row[1:])
    told = []
    for at, (low, sign) in enumerate(growth):
        high = growth[at + 1][0] if at + 1 < len(growth) else None
        for piece in pieces_between(row, low, high, sign):
            if not told or told[-1][1] != piece[1]:
                told.append(piece)
    return told


def pieces_between(row, low, high, growth):
    """The stretches of a row from low to high - 1, without an end if high is None, where it only rises or falls."""
    first = sign_of(row_value(row, low))
    told = [(low, first)]
    if growth == 0 or first == growth:
        return told
    upward = row if growth > 0 else [-w for w in row]
    for bound in (0, 1):
        if high is not None and row_value(upward, high - 1) < bound:
            break
        at = first_at_least(upward, bound, low, None if high is None else high - 1)
        sign = sign_of(row_value(row, at))
        if sign != told[-1][1]:
            told.append((at, sign))
    return told


def first_positive(row, start):
    """The least t from start on at which the value is above 0, None if there is none."""
    told = stretches(row)
    for at, (low, sign) in enumerate(told):
        if sign > 0 and (at + 1 == len(told) or told[at + 1][0] > start):
            return max(low, start)
    return None


def peak_from(row, start):
    """(value, t) of the greatest value from start on and the least t of it, None if there is no greatest one."""
    growth = stretches(row[1:]) if len(row) > 1 else [(0, 0)]
    if growth[-1][1] > 0:
        return None
    best = (row_value(row, start), start)
    for low, sign in growth:
        if low > start and row_value(row, low) > best[0]:
            best = (row_value(row, low), low)
    return best
