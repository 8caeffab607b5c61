"""Sets of rows of numbers, told by machines that read the digits of the numbers."""

from loopsize.conditionsets import case_machines, machine_of_cases
from loopsize.cuts import left_freely, put_machine
from loopsize.errors import TooLarge
from loopsize.kinds import is_natural
from loopsize.largeness import is_laborious, surely_above
from loopsize.machines import BOTH, EITHER, FIRST_ALONE, arity_of, joined_freely, minimal_up_to
from loopsize.machines import in_first_alone, reordered_machine, turned, widened_machine

MOST_STATES = 400


class DigitSet:
    """A set of rows of one arity, with its machine. Made by the functions of the package alone."""

    def __init__(self, machine):
        self.arity = arity_of(machine)
        self.rows = machine[0]
        self.ends = machine[1]
        self.states = len(machine[0])

    def __contains__(self, x):
        numbers = (x,) if self.arity == 1 and is_natural(x) else x
        return is_row(numbers, self.arity) and self.ends[state_behind(self.rows, numbers)]

    def __eq__(self, other):
        return isinstance(other, DigitSet) and self.rows == other.rows and self.ends == other.ends


def is_row(value, arity):
    if not isinstance(value, (tuple, list)) or len(value) != arity:
        return False
    return all([is_natural(number) for number in value])


def state_behind(rows, numbers):
    """The state to which the digits of the numbers lead from the first state on."""
    state = 0
    for at in range(max([number.bit_length() for number in numbers])):
        letter = 0
        for place, number in enumerate(numbers):
            letter = letter | (number >> at & 1) << place
        state = rows[state][letter]
    return state


def machine_of(a):
    return a.rows, a.ends


def told_set(machine):
    """The set of a machine, if it may be told."""
    if len(machine[0]) > MOST_STATES:
        raise TooLarge(MOST_STATES)
    return DigitSet(machine)


def least_told_set(rows, ends):
    """The set of a machine that need not have the fewest states, if it may be told."""
    machine = minimal_up_to(rows, ends, MOST_STATES)
    if machine is None:
        raise TooLarge(MOST_STATES)
    return DigitSet(machine)


def joined_set(a, b, keep):
    rows, ends = joined_freely(machine_of(a), machine_of(b), keep)
    return least_told_set(rows, ends)


def set_without(machine, left):
    """The set of the rows that are in a machine and in none of those that are left out, if it may be told."""
    case = [machine] + [turned(other) for other in left]
    if is_laborious([case]) and surely_above([case], MOST_STATES):
        raise TooLarge(MOST_STATES)
    for other in left:
        machine = in_first_alone(machine, other)
    return told_set(machine)


def digit_set(arity, cases):
    """The rows of an arity for which one of the cases holds."""
    machines = case_machines(arity, cases)
    if is_laborious(machines) and surely_above(machines, MOST_STATES):
        raise TooLarge(MOST_STATES)
    rows, ends = machine_of_cases(arity, machines)
    return least_told_set(rows, ends)


def both(a, b):
    return joined_set(a, b, BOTH)


def either(a, b):
    return joined_set(a, b, EITHER)


def without(a, b):
    return joined_set(a, b, FIRST_ALONE)


def others(a):
    return told_set(turned(machine_of(a)))


def left_out(a, place):
    """The rows with one number less that are in with some number put in at the place."""
    rows, ends = left_freely(machine_of(a), place)
    return least_told_set(rows, ends)


def put_in(a, place, number):
    """The rows with one number less that are in with this number put in at the place."""
    return told_set(put_machine(machine_of(a), place, number))


def widened(a, place):
    """The rows with one number more, of any size, at the place, that are in without it."""
    return told_set(widened_machine(machine_of(a), place))


def reordered(a, places):
    """The rows whose number at each t is the number at places[t] of a row of the set."""
    return told_set(reordered_machine(machine_of(a), places))


def is_none(a):
    return a.states == 1 and not a.ends[0]


def is_all(a):
    return a.states == 1 and a.ends[0]
