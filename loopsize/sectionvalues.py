"""Values of a count at many numbers side by side, out of those of its kept sections at the numbers that they share.

The numbers number * 2 ** levels + x share all digits but the last ones. On the way down, digit by digit, only those
sections are reckoned that are still needed for the count itself.
"""

from loopsize.systems import column_behind


def needed_sections(steps, levels):
    """For each level the sections that are needed there for the count itself at level 0."""
    told = [[0]]
    for _ in range(levels):
        is_needed = {}
        for step in steps:
            for i in told[-1]:
                for j, _ in step[i][1]:
                    is_needed[j] = True
        told.append(sorted(is_needed))
    return told


def steps_between(steps, below, above):
    """The steps that tell the sections needed on one level by those needed on the level above."""
    place = {}
    for at, j in enumerate(above):
        place[j] = at
    told = []
    for step in steps:
        told.append([(step[i][0], tuple([(place[j], x) for j, x in step[i][1]])) for i in below])
    return told


def values_behind(steps, column, levels, many):
    """The values of the count at number * 2 ** levels + x, for all x below many, from the column of all sections at
    the number."""
    needed = needed_sections(steps, levels)
    columns = [[column[j] for j in needed[levels]]]
    for level in reversed(range(levels)):
        between = steps_between(steps, needed[level], needed[level + 1])
        last = (many - 1) >> level
        columns = [column_behind(between[x % 2], columns[x // 2]) for x in range(last + 1)]
    return [entries[0] for entries in columns[:many]]
