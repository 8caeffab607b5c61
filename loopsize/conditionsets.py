"""Machines of the conditions of [3]: what remains of a condition when the lowest digits are read."""

from math import gcd

from loopsize.machines import BOTH, EITHER, empty_machine, full_machine, joined, joined_freely, minimal


def explored(first, letters, follow, is_end):
    """The machine whose states are what follow makes of first, letter by letter."""
    rows, ends = explored_freely(first, letters, follow, is_end)
    return minimal(rows, ends)


def explored_freely(first, letters, follow, is_end):
    """The same machine, but not with the fewest states; they are in the order of [5]."""
    place = {first: 0}
    met = [first]
    rows = []
    while len(rows) < len(met):
        state = met[len(rows)]
        row = []
        for letter in letters:
            then = follow(state, letter)
            if then not in place:
                place[then] = len(met)
                met.append(then)
            row.append(place[then])
        rows.append(tuple(row))
    return tuple(rows), tuple([is_end(state) for state in met])


def digit_sums(factors):
    """For each letter the sum of the factors times the digits."""
    told = [0]
    for factor in factors:
        told = told + [value + factor for value in told]
    return told


def between_machine(factors, least, most):
    """The rows whose sum is from least to most. A state is the pair of these for the digits to come, None if it
    cannot be had."""
    low = sum([factor for factor in factors if factor < 0])
    high = sum([factor for factor in factors if factor > 0])

    def follow(wanted, digits):
        if wanted is None:
            return None
        bottom = -((digits - wanted[0]) // 2)
        top = (wanted[1] - digits) // 2
        # Beyond these bounds nothing that is to come has such a sum.
        if low == 0:
            bottom = max(bottom, 0)
        if high == 0:
            top = min(top, 0)
        return (bottom, top) if bottom <= top else None

    def is_end(wanted):
        return wanted is not None and wanted[0] <= 0 <= wanted[1]

    return explored((least, most), digit_sums(factors), follow, is_end)


def least_machine(factors, number):
    """The rows whose sum is not less than the number. A state is the number for the digits to come."""
    low = -sum([factor for factor in factors if factor < 0])
    high = sum([factor for factor in factors if factor > 0])

    def follow(wanted, digits):
        then = -((digits - wanted) // 2)
        # Beyond these bounds the answer is certain, whatever digits come.
        if high == 0 and then > 0:
            return 1
        if low == 0 and then <= 0:
            return 0
        return then

    return explored(number, digit_sums(factors), follow, lambda wanted: wanted <= 0)


def rest_machine(factors, m, rests):
    """The rows whose sum has one of the rests. A state tells of each rest of the sum to come whether it is wanted.

    All rests can come, once the common divisor is taken out, and those that are wanted are told for the least
    modulus that will do: so no two states are alike.
    """
    common = m
    for factor in factors:
        common = gcd(common, factor)
    wanted_at = [at for at, rest in enumerate(range(0, m, common)) if rest in rests]
    if len(wanted_at) == 1:
        return one_rest_machine([factor // common for factor in factors], m // common, wanted_at[0])
    first = shortest([rest in rests for rest in range(0, m, common)])

    def follow(wanted, digits):
        many = len(wanted)
        if many == 1:
            return wanted
        if many % 2 == 1:
            return tuple([wanted[(digits + 2 * rest) % many] for rest in range(many)])
        return shortest([wanted[(digits + 2 * rest) % many] for rest in range(many // 2)])

    sums = digit_sums([factor // common for factor in factors])
    return explored_freely(first, sums, follow, lambda wanted: wanted[0])


def one_rest_machine(factors, m, rest):
    """The same for one rest alone. A state is the modulus that is left and the rest of what is to come, None if it
    cannot be had."""

    def follow(wanted, digits):
        if wanted is None or wanted[0] == 1:
            return wanted
        many, left = wanted
        left = (left - digits) % many
        if many % 2 == 1:
            return many, (left if left % 2 == 0 else left + many) // 2
        return (many // 2, left // 2) if left % 2 == 0 else None

    return explored_freely((m, rest), digit_sums(factors), follow, lambda wanted: wanted is not None and wanted[1] == 0)


def shortest(wanted):
    """The truths up to the least place from which on they are repeated."""
    many = len(wanted)
    for part in range(1, many):
        if many % part == 0 and wanted == wanted[:part] * (many // part):
            return tuple(wanted[:part])
    return tuple(wanted)


def condition_machine(condition):
    if condition[0] == "is":
        return between_machine(condition[1], condition[2], condition[2])
    if condition[0] == "least":
        return least_machine(condition[1], condition[2])
    return rest_machine(condition[1], condition[2], condition[3])


def case_machines(arity, cases):
    """For each case the machines of its conditions, but no cases without rows and no conditions for all rows."""
    told = []
    for case in cases:
        machines = [condition_machine(condition) for condition in case]
        if empty_machine(arity) not in machines:
            told.append([machine for machine in machines if machine != full_machine(arity)])
    return told


def machine_of_cases(arity, cases):
    """A machine of the rows that are in all machines of one of the cases; it may have more states than are needed."""
    if [] in cases:
        return full_machine(arity)
    if not cases:
        return empty_machine(arity)
    if len(cases) == 1:
        return joined_at_last(cases[0], BOTH)
    return joined_at_last([in_all(case) for case in cases], EITHER)


def joined_at_last(machines, keep):
    """Machines joined one behind the other; what comes out may have more states than are needed."""
    told = machines[0]
    for machine in machines[1:-1]:
        told = joined(told, machine, keep)
    return joined_freely(told, machines[-1], keep) if len(machines) > 1 else told


def in_all(machines):
    """The machine of the rows that are in all of some machines, at least one."""
    told = machines[0]
    for machine in machines[1:]:
        told = joined(told, machine, BOTH)
    return told
