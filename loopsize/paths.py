"""The way of a value back through copies, at one size."""

from loopsize.checks import statement_at
from loopsize.copies import is_copy
from loopsize.errors import Long
from loopsize.lasts import source_at

MOST_WORKS = 400


def path(program, n, read, j):
    """(works, end): the works of copies through which the value of a read at j has come, and where it comes from."""
    works = []
    source = source_at(program, n, read, j)
    while source is not None and is_copy(program, (source[0], source[2])):
        if len(works) == MOST_WORKS:
            raise Long(tuple(works))
        works.append(source)
        read = (source[0], source[2], 0)
        j = source[1]
        source = source_at(program, n, read, j)
    if source is None:
        taken = statement_at(program, read[0], read[1]).reads[read[2]]
        return tuple(works), ("input", taken.array, taken.place(j, n))
    return tuple(works), ("work", *source)
