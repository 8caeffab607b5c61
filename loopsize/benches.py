"""Benches: programs that are rewritten deed by deed, and back again."""

from loopsize.errors import AtEnd, AtStart, BadDeed, BadGrade, BadName, NoProgram, NotInOrder, NotSameFlow, TakenName
from loopsize.kinds import LETTERS
from loopsize.orders import check_whole
from loopsize.reports import report_of, report_text
from loopsize.rewriting import cut_loop, deal_loop, join_loops, no_rewriting, split_loop, swap_loops
from loopsize.rewriting import swap_statements, turn_loop, unroll_loop
from loopsize.sameflow import first_unlike_flow
from loopsize.straights import place_like
from loopsize.texts import place_text, program_text
from loopsize.turnings import first_turned

MANY_ARGUMENTS = {
    "swap_loops": 1, "swap_statements": 2, "turn_loop": 1, "join_loops": 1, "split_loop": 2, "cut_loop": 2,
    "deal_loop": 2, "unroll_loop": 2,
}
GRADES = ("order", "flow")
LONGEST_NAME = 20


class Paper:
    """Why a deed may be done: in order, or as the flow stays the same."""

    def __init__(self, deed, grade, turned):
        self.deed = deed
        self.grade = grade
        self.turned = turned


class Course:
    """A program with its deeds: pairs of a paper and the rewriting that was done, and those that were taken back."""

    def __init__(self, first, done):
        self.first = first
        self.done = done
        self.undone = []


class Bench:
    """Keeps programs by names."""

    def __init__(self):
        self.courses = {}

    def put_program(self, name, program):
        self.check_new(name)
        self.courses[name] = Course(program, [])

    def check_new(self, name):
        if not is_bench_name(name):
            raise BadName(name)
        if name in self.courses:
            raise TakenName(name)

    def course_of(self, name):
        if not isinstance(name, str) or name not in self.courses:
            raise NoProgram(name)
        return self.courses[name]

    def drop_program(self, name):
        self.course_of(name)
        del self.courses[name]

    def all_names(self):
        return tuple(sorted(self.courses))

    def __contains__(self, name):
        return isinstance(name, str) and name in self.courses

    def first_of(self, name):
        """The program that was put."""
        return self.course_of(name).first

    def program_of(self, name):
        """What the program is now."""
        return program_now(self.course_of(name))

    def papers_of(self, name):
        """The papers of the deeds that stand."""
        return tuple([paper for paper, _ in self.course_of(name).done])

    def rewriting_of(self, name):
        """The rewriting from the first program to the one now."""
        course = self.course_of(name)
        told = no_rewriting(course.first)
        for _, rewriting in course.done:
            told = told.then(rewriting)
        return told

    def do_deed(self, name, deed, *, grade="order"):
        """Does a deed to the program now; tells its paper."""
        course = self.course_of(name)
        if not isinstance(grade, str) or grade not in GRADES:
            raise BadGrade(grade)
        rewriting = rewriting_by(program_now(course), deed)
        paper = paper_of(rewriting, deed, grade)
        course.done.append((paper, rewriting))
        course.undone.clear()
        return paper

    def undo_deed(self, name):
        """Takes the last deed back; tells the program that it is then."""
        course = self.course_of(name)
        if not course.done:
            raise AtStart()
        course.undone.append(course.done.pop())
        return program_now(course)

    def redo_deed(self, name):
        """Does the deed again that was taken back last; tells the program that it is then."""
        course = self.course_of(name)
        if not course.undone:
            raise AtEnd()
        course.done.append(course.undone.pop())
        return program_now(course)

    def copy_program(self, name, other):
        """Puts a program with its deeds under another name, too."""
        course = self.course_of(name)
        self.check_new(other)
        self.courses[other] = Course(course.first, list(course.done))


def is_bench_name(value):
    if not isinstance(value, str) or not 1 <= len(value) <= LONGEST_NAME:
        return False
    return all([letter in LETTERS for letter in value])


def program_now(course):
    return course.done[-1][1].after if course.done else course.first


def rewriting_by(program, deed):
    """The rewriting of a deed."""
    if not is_deed(deed):
        raise BadDeed(deed)
    name, loop = deed[:2]
    if name == "swap_loops":
        return swap_loops(program, loop)
    if name == "turn_loop":
        return turn_loop(program, loop)
    if name == "join_loops":
        return join_loops(program, loop)
    if name == "swap_statements":
        return swap_statements(program, loop, deed[2])
    if name == "split_loop":
        return split_loop(program, loop, deed[2])
    if name == "cut_loop":
        return cut_loop(program, loop, deed[2])
    if name == "deal_loop":
        return deal_loop(program, loop, deed[2])
    return unroll_loop(program, loop, deed[2])


def is_deed(value):
    if not isinstance(value, tuple) or not value or not isinstance(value[0], str):
        return False
    return MANY_ARGUMENTS.get(value[0], 0) == len(value) - 1 and value[0] in MANY_ARGUMENTS


def paper_of(rewriting, deed, grade):
    """The paper of a deed, if it may be done by this grade."""
    check_whole(rewriting)
    turned = first_turned(rewriting)
    if turned is None:
        return Paper(deed, "order", None)
    if grade == "order":
        raise NotInOrder(turned[0], turned[1], turned[2])
    unlike = first_unlike_flow(rewriting)
    if unlike is not None:
        raise NotSameFlow(unlike[0], unlike[1], unlike[2])
    return Paper(deed, "flow", turned)


def judged(program, deed):
    """The paper of a deed to a program."""
    return paper_of(rewriting_by(program, deed), deed, "flow")


def page_text(bench, name):
    """The program now, its deeds and its report."""
    program = bench.program_of(name)
    deeds = [f"deed {deed_text(paper.deed)}: {paper.grade}\n" for paper in bench.papers_of(name)]
    return name + "\n" + program_text(program) + "".join(deeds) + report_text(report_of(program))


def deed_text(deed):
    """The words of a deed; its place is told as in the text of a program."""
    words = [deed[0], str(deed[1])]
    if len(deed) > 2:
        words.append(place_text(place_like(deed[2])) if deed[0] == "cut_loop" else str(deed[2]))
    return " ".join(words)
