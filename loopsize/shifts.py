"""Machines with one number moved, and the first of the works that a machine has at one size."""

from loopsize.cuts import left_machine, put_machine
from loopsize.machines import arity_of, minimal
from loopsize.searches import goals_behind, greatest_in, least_first, least_from


def moved_machine(machine, place, shift):
    """The rows that are in with the number at the place less by the shift. A state has what is carried, too."""
    if shift == 0:
        return machine
    rows, ends = machine
    mark = 1 << place
    place_of = {(0, -shift): 0}
    met = [(0, -shift)]
    told = []
    while len(told) < len(met):
        state, carry = met[len(told)]
        row = []
        for letter in range(len(rows[0])):
            total = carry + (1 if letter & mark else 0)
            then = (rows[state][letter & ~mark | (mark if total & 1 else 0)], total >> 1)
            if then not in place_of:
                place_of[then] = len(met)
                met.append(then)
            row.append(place_of[then])
        told.append(row)
    return minimal(told, [ends_moved(rows, ends, mark, state, carry) for state, carry in met])


def ends_moved(rows, ends, mark, state, carry):
    """Whether the row may end here: the carry still makes digits, and below 0 there are no numbers."""
    while carry > 0:
        state = rows[state][mark if carry & 1 else 0]
        carry = carry >> 1
    return carry == 0 and ends[state]


def first_counter(machine, fixed, down):
    """The first counter behind fixed numbers, a size or more, of the rows of a machine; None if there is none."""
    arity = arity_of(machine)
    free = arity - len(fixed) - 1
    if not down:
        return least_from(machine[0], goals_behind(machine, arity, len(fixed)), fixed, 0, free)
    there = machine
    for number in fixed:
        there = put_machine(there, 0, number)
    return greatest_in(left_machine(there, 1) if free > 0 else there)


def first_at(program, fixed, found):
    """The first work behind fixed numbers, with its least mark: (loop, counter, statement, mark), None if there is
    none.

    found has tuples (loop, statement, mark, machine), the machine of rows that begin with the fixed numbers.
    """
    for place, loop in enumerate(program.loops):
        firsts = []
        for other, statement, mark, machine in found:
            counter = first_counter(machine, fixed, loop.down) if other == place else None
            if counter is not None:
                firsts.append((-counter if loop.down else counter, statement, mark))
        if firsts:
            counter, statement, mark = min(firsts)
            return place, -counter if loop.down else counter, statement, mark
    return None


def least_size(machines):
    """The least first number of the rows of some machines, None if they have none."""
    sizes = [least_first(machine) for machine in machines]
    return min([n for n in sizes if n is not None], default=None)
