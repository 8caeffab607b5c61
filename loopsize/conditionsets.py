"""Machines of the conditions of [3]: what remains of a condition when the lowest digits are read."""

from loopsize.machines import empty_machine, full_machine, in_both, in_either, minimal


def explored(first, letters, follow, is_end):
    """The machine whose states are what follow makes of first, letter by letter."""
    place = {first: 0}
    met = [first]
    rows = []
    while len(rows) < len(met):
        state = met[len(rows)]
        row = []
        for letter in letters:
            then = follow(state, letter)
            if then not in place:
                place[then] = len(met)
                met.append(then)
            row.append(place[then])
        rows.append(tuple(row))
    return minimal(rows, [is_end(state) for state in met])


def digit_sums(factors):
    """For each letter the sum of the factors times the digits."""
    told = [0]
    for factor in factors:
        told = told + [value + factor for value in told]
    return told


def is_machine(factors, number):
    """The rows whose sum is the number. A state is the sum that is still wanted, None if it cannot be had."""
    low = sum([factor for factor in factors if factor < 0])
    high = sum([factor for factor in factors if factor > 0])

    def follow(wanted, digits):
        if wanted is None or (wanted - digits) % 2 == 1:
            return None
        then = (wanted - digits) // 2
        out_of_reach = (then > 0 and high == 0) or (then < 0 and low == 0)
        return None if out_of_reach else then

    return explored(number, digit_sums(factors), follow, lambda wanted: wanted == 0)


def least_machine(factors, number):
    """The rows whose sum is not less than the number. A state is the number for the digits to come."""
    low = -sum([factor for factor in factors if factor < 0])
    high = sum([factor for factor in factors if factor > 0])

    def follow(wanted, digits):
        then = -((digits - wanted) // 2)
        # Beyond these bounds the answer is certain, whatever digits come.
        if high == 0 and then > 0:
            return 1
        if low == 0 and then <= 0:
            return 0
        return then

    return explored(number, digit_sums(factors), follow, lambda wanted: wanted <= 0)


def rest_machine(factors, m, rests):
    """The rows whose sum has one of the rests. A state is (worth of the next digit, sum so far), modulo m."""
    wanted = [rest in rests for rest in range(m)]

    def follow(state, digits):
        worth, so_far = state
        return worth * 2 % m, (so_far + worth * digits) % m

    return explored((1 % m, 0), digit_sums(factors), follow, lambda state: wanted[state[1]])


def condition_machine(condition):
    if condition[0] == "is":
        return is_machine(condition[1], condition[2])
    if condition[0] == "least":
        return least_machine(condition[1], condition[2])
    return rest_machine(condition[1], condition[2], condition[3])


def case_machines(arity, cases):
    """For each case the machines of its conditions, but no cases without rows and no conditions for all rows."""
    told = []
    for case in cases:
        machines = [condition_machine(condition) for condition in case]
        if empty_machine(arity) not in machines:
            told.append([machine for machine in machines if machine != full_machine(arity)])
    return told


def machine_of_cases(arity, cases):
    """The machine of the rows that are in all machines of one of the cases."""
    if [] in cases:
        return full_machine(arity)
    told = empty_machine(arity)
    for case in cases:
        part = full_machine(arity)
        for machine in case:
            part = in_both(part, machine)
        told = in_either(told, part)
    return told
