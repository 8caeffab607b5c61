"""What all parts tell of a program, for all sizes."""

from loopsize.folding import first_not_kept, least_right
from loopsize.formulas import formula_of
from loopsize.gaps import lanes, least_gap
from loopsize.sources import sources_for
from loopsize.spaces import bad_cell
from loopsize.works import work_totals


class Report:
    """What a program comes to. Made by the functions of the package alone."""

    def __init__(self, works, loops, arrays, reads, cell):
        self.works = works
        self.loops = loops
        self.arrays = arrays
        self.reads = reads
        self.cell = cell


def report_of(program):
    """Gathers what is told of a program."""
    works = formula_of(work_totals(program))
    sources = sources_for(program)
    arrays = tuple([(array, fold_of(sources, array)) for array in program.arrays])
    loops = tuple([(least_gap(program, loop), lanes(program, loop)) for loop in range(len(program.loops))])
    reads = tuple([(read, tuple(sorted(sources.taken_by(read)))) for read in all_reads(program)])
    return Report(works, loops, arrays, reads, bad_cell(program))


def fold_of(sources, array):
    """The least right number of an array, None without one, 0 if the array is not kept between."""
    return least_right(sources, array) if first_not_kept(sources, array) is None else 0


def all_reads(program):
    told = []
    for loop, entry in enumerate(program.loops):
        for number, statement in enumerate(entry.statements):
            told.extend([(loop, number, read) for read in range(len(statement.reads))])
    return told


def report_text(report):
    """The text of a report: lines for loops, arrays and reads."""
    lines = []
    for loop, (gap, divisor) in enumerate(report.loops):
        lines.append(f"loop {loop}: gap {gap}, lanes {divisor}")
    for array, fold in report.arrays:
        lines.append(f"array {array}: {fold_text(fold)}")
    for (loop, statement, read), sources in report.reads:
        taken = ", ".join([f"{place} {number}" for place, number in sources])
        lines.append(f"read {loop} {statement} {read}: from {taken or 'input alone'}")
    return "".join([line + "\n" for line in lines])


def fold_text(fold):
    if fold is None:
        return "no number"
    return "not kept between" if fold == 0 else str(fold)
