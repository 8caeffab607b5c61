"""All errors of the package. Each one keeps what it was made with under the names of its fields."""


class LoopError(ValueError):
    """Above all errors of the package."""


class BadText(LoopError):
    """A text of a program has a wrong word."""

    def __init__(self, line, column):
        self.line = line
        self.column = column


class BadName(LoopError):
    """No name of an array, or of a program of a bench."""

    def __init__(self, name):
        self.name = name


class BadNumber(LoopError):
    """A number passes its bound."""

    def __init__(self, what, number):
        self.what = what
        self.number = number


class BadSize(LoopError):
    """No size."""

    def __init__(self, n):
        self.n = n


class BadMany(LoopError):
    """No number of parts."""

    def __init__(self, many):
        self.many = many


class BadGrade(LoopError):
    """No grade."""

    def __init__(self, grade):
        self.grade = grade


class TooMany(LoopError):
    """Too many things of one kind."""

    def __init__(self, what, many, limit):
        self.what = what
        self.many = many
        self.limit = limit


class TooLarge(LoopError):
    """A set that would be told has a machine of more states."""

    def __init__(self, most):
        self.most = most


class TooFar(LoopError):
    """A period or a start is beyond the limit."""

    def __init__(self, what, limit):
        self.what = what
        self.limit = limit


class TooLong(LoopError):
    """Too many turns or steps."""

    def __init__(self, many):
        self.many = many


class NoLoop(LoopError):
    """No loop of the program."""

    def __init__(self, loop):
        self.loop = loop


class NoStatement(LoopError):
    """No statement of the loop."""

    def __init__(self, loop, statement):
        self.loop = loop
        self.statement = statement


class NoAccess(LoopError):
    """No access of the statement."""

    def __init__(self, access):
        self.access = access


class NoArray(LoopError):
    """No array of the program."""

    def __init__(self, array):
        self.array = array


class NoWork(LoopError):
    """No work."""

    def __init__(self, work):
        self.work = work


class NoNumber(LoopError):
    """No number of a work."""

    def __init__(self, number):
        self.number = number


class NoRead(LoopError):
    """No read of the statement."""

    def __init__(self, read):
        self.read = read


class NoLag(LoopError):
    """There is no greatest lag."""

    def __init__(self, loop):
        self.loop = loop


class NotKept(LoopError):
    """An array is not kept between."""

    def __init__(self, n, work, read):
        self.n = n
        self.work = work
        self.read = read


class NotWhole(LoopError):
    """A rewriting is not whole."""

    def __init__(self, n, work):
        self.n = n
        self.work = work


class Unlike(LoopError):
    """Two loops differ that must be alike."""

    def __init__(self, loop):
        self.loop = loop


class Deeper(LoopError):
    """A turn has a greater front."""

    def __init__(self, n, chain):
        self.n = n
        self.chain = chain


class Deep(LoopError):
    """A path has too many stretches."""

    def __init__(self, n, counter):
        self.n = n
        self.counter = counter


class Long(LoopError):
    """A path has too many works."""

    def __init__(self, works):
        self.works = works


class Mixing(LoopError):
    """A statement is no copy."""

    def __init__(self, loop, statement):
        self.loop = loop
        self.statement = statement


class AtEnd(LoopError):
    """There is nothing more to do."""


class AtStart(LoopError):
    """There is nothing to take back."""


class OtherProgram(LoopError):
    """A rewriting of another program."""


class SameArray(LoopError):
    """An array is passed twice."""

    def __init__(self, array):
        self.array = array


class NotSame(LoopError):
    """Paths end in another way."""

    def __init__(self, n, counter):
        self.n = n
        self.counter = counter


class Taken(LoopError):
    """A work is not idle."""

    def __init__(self, n, counter):
        self.n = n
        self.counter = counter


class Endless(LoopError):
    """Endlessly many rows begin with one number."""

    def __init__(self, n):
        self.n = n


class BadDeed(LoopError):
    """No deed."""

    def __init__(self, deed):
        self.deed = deed


class TakenName(LoopError):
    """A bench has the name."""

    def __init__(self, name):
        self.name = name


class NoProgram(LoopError):
    """A bench has no such name."""

    def __init__(self, name):
        self.name = name


class NotInOrder(LoopError):
    """A rewriting does not keep the order."""

    def __init__(self, n, first, second):
        self.n = n
        self.first = first
        self.second = second


class NotSameFlow(LoopError):
    """A rewriting does not have the same flow."""

    def __init__(self, n, work, read):
        self.n = n
        self.work = work
        self.read = read
