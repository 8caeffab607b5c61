"""[24] and [25]: texts of programs."""

import random
import re
import unittest

from loopsize.conditions import AtLeast, Rest
from loopsize.errors import BadNumber, BadText, TooMany
from loopsize.programs import Loop, Program, Read, Statement, same_programs
from loopsize.straights import Place, Straight
from loopsize.texts import program_text, read_place, read_program

KEPT = ("for", "i", "from", "n", "below", "by", "down", "if", "and", "mod")
# The grammar of [24], word for word: what stands in capitals is told by lines of its own, NUMBER and ARRAY are words.
GRAMMAR = {
    "LOOP": ["for i from NPLACE below NPLACE BY DOWN :"],
    "BY": ["", "by NUMBER"],
    "DOWN": ["", "down"],
    "STATEMENT": ["IF ARRAY [ SUM ] = ITEMS"],
    "IF": ["", "if CONDS :"],
    "CONDS": ["COND", "CONDS and COND"],
    "ITEMS": ["ITEM", "- ITEM", "ITEMS + ITEM", "ITEMS - ITEM"],
    "ITEM": ["NUMBER", "ARRAY [ PLACE ]", "NUMBER * ARRAY [ PLACE ]"],
    "SUM": ["TERMS", "- TERMS"],
    "TERMS": ["TERM", "TERMS + TERM", "TERMS - TERM"],
    "ONE": ["TERM", "- TERM"],
    "TERM": ["NUMBER", "i", "n", "NUMBER * i", "NUMBER * n"],
    "PLACE": ["SUM", "( SUM ) // NUMBER", "ONE // NUMBER"],
    "COND": ["SUM >= SUM", "SUM > SUM", "SUM <= SUM", "SUM < SUM", "( SUM ) mod NUMBER == NUMBER",
             "ONE mod NUMBER == NUMBER"],
    "NSUM": ["NTERMS", "- NTERMS"],
    "NTERMS": ["NTERM", "NTERMS + NTERM", "NTERMS - NTERM"],
    "NONE": ["NTERM", "- NTERM"],
    "NTERM": ["NUMBER", "n", "NUMBER * n"],
    "NPLACE": ["NSUM", "( NSUM ) // NUMBER", "NONE // NUMBER"],
}
RULES = {head: [tuple(body.split()) for body in bodies] for head, bodies in GRAMMAR.items()}


def is_word(told, word):
    if told == "NUMBER":
        return re.fullmatch(r"0|[1-9][0-9]{0,8}", word) is not None
    if told == "ARRAY":
        return re.fullmatch(r"[a-z]{1,8}", word) is not None and word not in KEPT
    return told == word


def closed(items, sets, at):
    """All items of a set of a parser that goes through all ways at once: (head, body, done, begun)."""
    told = list(items)
    seen = set(told)
    ended = set()
    place = 0
    while place < len(told):
        head, body, done, begun = told[place]
        place += 1
        more = []
        if done == len(body):
            source = told if begun == at else sets[begun]
            more = [(h, b, d + 1, s) for h, b, d, s in list(source) if d < len(b) and b[d] == head]
            if begun == at:
                ended.add(head)
        elif body[done] in RULES:
            more = [(body[done], rule, 0, at) for rule in RULES[body[done]]]
            if body[done] in ended:
                more.append((head, body, done + 1, begun))
        for item in more:
            if item not in seen:
                seen.add(item)
                told.append(item)
    return told


def wrong_column(line, start):
    """The column of the first wrong word of a line, None if it is right."""
    words = [(found.group(), found.start() + 1) for found in re.finditer(r"[a-z]+|[0-9]+|//|>=|<=|==|[^ ]", line)]
    sets = [closed([("LINE", (start,), 0, 0)], [], 0)]
    for word, column in words:
        items = [(h, b, d + 1, s) for h, b, d, s in sets[-1] if d < len(b) and is_word(b[d], word)]
        if not items:
            return column
        sets.append(closed(items, sets, len(sets)))
    return None if ("LINE", (start,), 1, 0) in sets[-1] else len(line) + 1


def wrong_place(text):
    """(line, column) of the first wrong word of a text, None if it is right."""
    has_loop = False
    for at, line in enumerate(text.split("\n")):
        if line.strip(" ") == "":
            continue
        if line[0] == " " and not has_loop:
            return at + 1, len(line) - len(line.lstrip(" ")) + 1
        column = wrong_column(line, "STATEMENT" if line[0] == " " else "LOOP")
        has_loop = True
        if column is not None:
            return at + 1, column
    return None


def told_place(text):
    try:
        read_program(text)
    except BadText as error:
        return error.line, error.column
    except (BadNumber, TooMany):
        return None
    return None


LINES = (
    "for i from 0 below n:",
    "for i from 1 below (2 * n + 2) // 4 by 2 down:",
    "for i from -n + 3 below n // 2 down :",
    "for i from (n) // 3 below 3 * n - 4 by 16:",
    "for i from 2*n//2 below -1 + 999999999:",
    "  a[i] = 1",
    " x[n - i + n] = 2 - b[(i + n) // 2] + 3",
    "    if i mod 3 == 1 and 2*i > n + 1: a[i] = - 3 * c[i // 2] - 0",
    " if (i + n - 3) mod 2 == 0 and -i mod 2 == 1 and i <= 3 and 0 < n and n>=i: abcdefgh[-i] = z[-n//3]",
    " s[0] = s[0] + x[i]",
    " y[2 * i - 3] = -x[i + 1]",
)
EXTRA = ("for", "i", "n", "from", "below", "by", "down", "if", "and", "mod", "a", "0", "7", "12", "00", "012",
         "1234567890", "abcdefghi", "//", "/", ">=", "<=", "==", "=", "+", "-", "*", "(", ")", "[", "]", ":", "<", ">",
         "A", "\t", "_", ".", "!", ",", "%", "\r", "**", "2i", "\u00e4")


class WrongTextTest(unittest.TestCase):
    def test_example(self):
        self.bad("for i from 0 below n:\n    a[i // 2] = 1\n", 2, 9)

    def bad(self, text, line, column):
        with self.assertRaises(BadText) as caught:
            read_program(text)
        self.assertEqual((caught.exception.line, caught.exception.column), (line, column), text)

    def test_columns_by_hand(self):
        for line, column in (
            ("for", 4), ("for ", 5), ("for j from 0 below n:", 5), ("for i from i below n:", 12),
            ("for i from 2 * i below n:", 16), ("for i from 0 below n", 21), ("for i from 0 below n  ", 23),
            ("for i from 0 below n::", 22), ("for i from 0 below n by down:", 25), ("for i from 0 below n down by 2:", 27),
            ("for i from 0 below n by 2 by 3:", 27), ("for i from n + 1 // 2 below n:", 18), ("For i from 0:", 1),
            ("for i from (n + 1) below n:", 20), ("for i from (n + 1 below n:", 19), ("for i from 01 below n:", 12),
            ("for i from 0 below 1234567890:", 20), ("for i from --n below n:", 13), ("\tfor i from 0 below n:", 1),
            ("for i from 0 below n:\t", 22), ("for i from 0 below n: a[i] = 1", 23), ("fori from 0 below n:", 1),
            ("for i from 0 below n / 2:", 22), ("for i from 0 below n // 2 // 2:", 27), ("for i from 0 below n//2 + 1:", 25),
            ("for i from 0 below 2n:", 21), ("for i from 0 below n * 2:", 22), ("for i from n below\n", 19),
        ):
            self.bad(line, 1, column)
            self.bad("for i from 0 below n:\n\n   \n" + line + "\n for", 4, column)
            self.assertEqual(wrong_column(line.split("\n")[0], "LOOP"), column)

    def test_columns_of_statement_lines_by_hand(self):
        for line, column in (
            (" a", 3), (" a[", 4), (" a[i]", 6), (" a[i] =", 8), (" a[i] =   ", 11), (" a[i] = 1 +", 12),
            (" a[i] = 1 2", 11), (" a[i] == 1", 7), (" if a[i] = 1", 5), (" if i: a[i] = 1", 6), (" i[0] = 1", 2),
            (" abcdefghi[0] = 1", 2), (" for i from 0 below n:", 2), (" a[i // 2] = 1", 6), (" a[(i)] = 1", 4),
            (" a[i] = b[(i + n)]", 18), (" a[i] = b[i + n // 2]", 17), (" a[i] = b[i]]", 13), (" a[i] = i", 9),
            (" a[i] = 2 * 3", 13), (" a[i] = b[i] * 2", 14), (" a[i] = (1)", 9), (" if i >= 0 a[i] = 1", 12),
            (" if i >= 0: if i >= 1: a[i] = 1", 13), (" if i mod 2 = 1: a[i] = 1", 13), (" if i + n mod 2 == 1: a[i] = 1", 11),
            (" if (i) >= 1: a[i] = 1", 9), (" if i mod n == 1: a[i] = 1", 11), (" if i mod 2 == n: a[i] = 1", 16),
            (" if i >= 0 and: a[i] = 1", 15), (" if i == 1: a[i] = 1", 7), (" if i >== 1: a[i] = 1", 9),
            (" if i = > 1: a[i] = 1", 7), (" a[i] = +1", 9), (" a[-+i] = 1", 5), (" a[i] = - - 1", 11), (" a [ i ] = 1 ;", 14),
            ("  A[i] = 1", 3), (" a[i] = 1 - 0b", 14), (" \ta[i] = 1", 2), (" a[i] = 1\r", 10), (" a[i]=x[i]-", 12),
        ):
            self.bad("for i from 0 below n:\n" + line, 2, column)
            self.bad("for i from 0 below n:\n a[i] = 1\n" + line + "\n a[i] = 1\nwrong", 3, column)
            self.assertEqual(wrong_column(line, "STATEMENT"), column)

    def test_statement_lines_ahead_of_all_loop_lines(self):
        self.bad(" a[i] = 1", 1, 2)
        self.bad("\n   \n    a[i] = 1\nfor i from 0 below n:\n", 3, 5)
        self.bad("   ???", 1, 4)
        self.bad(" a[i] = 1\nwrong", 1, 2)

    def test_words_of_mutated_lines_against_a_plain_parser(self):
        chance = random.Random(71)
        seen = 0
        for _ in range(1500):
            lines = [LINES[0]] + [chance.choice(LINES) for _ in range(chance.randint(1, 2))]
            at = chance.randrange(len(lines))
            words = re.findall(r" +|[a-z]+|[0-9]+|//|>=|<=|==|.", lines[at])
            for _ in range(chance.randint(1, 2)):
                place = chance.randrange(len(words) + 1)
                if chance.random() < 0.4:
                    words = words[:place] + words[place + 1:]
                elif chance.random() < 0.5:
                    words = words[:place] + [chance.choice(EXTRA)] + words[place:]
                else:
                    words = words[:place] + [chance.choice(EXTRA)] + words[place + 1:]
            lines[at] = "".join(words)
            text = "\n".join(lines)
            wanted = wrong_place(text)
            seen += wanted is not None
            self.assertEqual(told_place(text), wanted, text)
        self.assertGreater(seen, 900)

    def test_lines_that_are_cut_off(self):
        for line in LINES:
            for end in range(1, len(line)):
                text = LINES[0] + "\n" + line[:end]
                self.assertEqual(told_place(text), wrong_place(text), text)

    def test_the_first_wrong_line_comes_ahead_of_bounds(self):
        self.bad("for i from 0 below 99 * n:\n a[13 * i] = 5000 + 0 * b[i]\nfor i from 0 below n\n", 3, 21)
        self.bad("for i from 0 // 0 below n:\n a[i] = ", 2, 9)
        self.bad("for i from 0 below n:\n" + " a[i] = 1\n" * 20 + " a[i] = b\n", 22, 10)
        self.bad("for i from 0 below n:\n" * 7 + "x", 8, 1)
        self.bad("for i from 0 below n:\n if i mod 7 == 9: a[i] = 1\n a[i] = 1 1", 3, 11)


class ReadTest(unittest.TestCase):
    def test_example(self):
        text = ("for i from 1 below (2 * n + 2) // 4 by 2 down:\n"
                "  if i mod 3 == 1 and 2*i > n + 1: a[n - i + n] = 2 - b[(i + n) // 2] + 3\n")
        program = read_program(text)
        self.assertEqual(program_text(program),
                         "for i from 1 below (n + 1) // 2 by 2 down:\n"
                         "    if i mod 3 == 1 and 2 * i - n - 2 >= 0: a[-i + 2 * n] = 5 - b[(i + n) // 2]\n")
        self.assertEqual([program.arrays, program.loops[0].many_turns(9), program.loops[0].statements[0].is_done(4, 6)],
                         [("a", "b"), 2, True])

    def one(self, line):
        return read_program("for i from 0 below n:\n " + line).loops[0].statements[0]

    def test_sums_are_added_up(self):
        for text, wanted in (("i", (1, 0, 0)), ("-i", (-1, 0, 0)), ("2*n-3*i+7-n", (-3, 1, 7)),
                             ("-4 + i - 5 + 2 * i", (3, 0, -9)), ("0 * i + 0", (0, 0, 0)), ("n - n", (0, 0, 0)),
                             ("999 - 12 * i - 12 * n", (-12, -12, 999)), ("1000 - 1", (0, 0, 999))):
            cell = self.one(f"a[{text}] = 1").cell
            self.assertEqual((cell.i, cell.n, cell.one), wanted)

    def test_items(self):
        told = self.one("a[i] = 5 - b[i] + 3 - 2 * c[(i + n) // 2] - 10 + 999 * a[-n // 3]")
        self.assertEqual(told.constant, -2)
        self.assertEqual([(read.array, read.factor) for read in told.reads], [("b", -1), ("c", -2), ("a", 999)])
        self.assertTrue(told.reads[1].place == Place(Straight(1, 1, 0), 2))
        self.assertTrue(told.reads[2].place == Place(Straight(0, -1, 0), 3))
        self.assertEqual((self.one("a[i] = -b[i]").constant, self.one("a[i] = -7").constant), (0, -7))
        self.assertEqual(self.one("a[i] = 999999999 - 999999998").constant, 1)
        self.assertEqual(self.one("a[i] = b[i] + b[i]").reads[1].factor, 1)

    def test_comparisons(self):
        for sign, holds in ((">=", lambda x, y: x >= y), (">", lambda x, y: x > y), ("<=", lambda x, y: x <= y),
                            ("<", lambda x, y: x < y)):
            condition = self.one(f"if 2 * i - 3 {sign} n + i - 5: a[i] = 1").conditions[0]
            self.assertIsInstance(condition, AtLeast)
            for i in range(9):
                for n in range(9):
                    self.assertIs(condition.holds(i, n), holds(2 * i - 3, n + i - 5))

    def test_rests(self):
        for text, wanted in (("i mod 3 == 2", Rest(Straight(1, 0, 0), 3, 2)), ("(i) mod 2 == 0", Rest(Straight(1, 0, 0), 2, 0)),
                             ("-2 * n mod 4 == 1", Rest(Straight(0, -2, 0), 4, 1)), ("5 mod 2 == 0", Rest(5, 2, 0)),
                             ("(i - n + 5) mod 4 == 3", Rest(Straight(1, -1, 5), 4, 3))):
            told = self.one(f"if {text}: a[i] = 1").conditions[0]
            self.assertTrue(told.straight == wanted.straight)
            self.assertEqual((told.modulus, told.rest), (wanted.modulus, wanted.rest))

    def test_blanks_and_empty_lines(self):
        text = "\n   \nfor   i from 0below n :\n\n a [ i ]=1+b [i]   \n      \n     if i>=0:a[i]=2\nfor i from 0 below 5:\n\n"
        program = read_program(text)
        self.assertEqual([len(loop.statements) for loop in program.loops], [2, 0])
        self.assertEqual(read_program("").loops, ())
        self.assertEqual(read_program("  \n\n ").loops, ())
        self.assertEqual(len(read_program(text="for i from 0 below n:").loops), 1)

    def refused(self, error, fields, text):
        with self.assertRaises(error) as caught:
            read_program(text)
        self.assertEqual(tuple(vars(caught.exception).values()), fields, text)

    def test_errors_of_bounds_in_order(self):
        head = "for i from 0 below n:\n"
        self.refused(BadNumber, ("divisor", 0), "for i from n // 0 below n // 0:\n if i mod 9 == 0: a[i] = 1")
        self.refused(BadNumber, ("divisor", 0), "for i from 5 * n below n // 0:\n if i mod 9 == 0: a[i] = 1")
        self.refused(BadNumber, ("modulus", 9), "for i from 5 * n below n:\n if i mod 9 == 0: a[i] = 1")
        self.refused(BadNumber, ("n", 5), "for i from 5 * n below n:\n if i mod 4 == 0: a[i] = 1")
        self.refused(BadNumber, ("rest", 4), head + " if i mod 4 == 4: a[i] = 1")
        self.refused(BadNumber, ("modulus", 1), head + " if i mod 1 == 4: a[13 * i] = 0 * b[i]")
        self.refused(BadNumber, ("divisor", 0), head + " a[13 * i] = 0 * b[i // 0]")
        self.refused(BadNumber, ("factor", 0), head + " a[13 * i] = 0 * b[13 * i]")
        self.refused(BadNumber, ("factor", -1000), head + " a[13 * i] = - 1000 * b[13 * i]")
        self.refused(BadNumber, ("i", 14), head + " a[13 * i] = b[14 * i]")
        self.refused(BadNumber, ("divisor", 4), head + " a[13 * i] = b[i // 4]")
        self.refused(TooMany, ("reads", 4, 3), head + " a[13 * i] = b[i] + b[i] + b[i] + b[i]")
        self.refused(TooMany, ("conditions", 4, 3), head + " if i >= 0 and i >= 0 and i >= 0 and i >= 0: a[13 * i] = 1")
        self.refused(BadNumber, ("i", 13), head + " if i <= 14 * i + n: a[-13 * i] = 1")
        self.refused(BadNumber, ("n", 13), head + " if i >= 5 - 13 * n: a[14 * i] = 1")
        self.refused(BadNumber, ("constant", 1000), head + " a[i] = 999 + 1")
        self.refused(TooMany, ("statements", 17, 16), head + " a[i] = 1\n" * 17)
        self.refused(BadNumber, ("step", 0), "for i from 5 * n below n by 0:")
        self.refused(BadNumber, ("step", 2), "for i from n // 2 below n by 2:")
        self.refused(TooMany, ("loops", 7, 6), head * 7)
        self.refused(BadNumber, ("step", 17), head * 6 + "for i from 0 below n by 17:")
        self.assertEqual(len(read_program(head + " a[i] = 1\n" * 16).loops[0].statements), 16)


class ReadPlaceTest(unittest.TestCase):
    def test_places(self):
        for text, wanted in (("i", Place(Straight(1, 0, 0), 1)), ("(2 * n + 2) // 4", Place(Straight(0, 1, 1), 2)),
                             (" -i // 3 ", Place(Straight(-1, 0, 0), 3)), ("n//999", Place(Straight(0, 1, 0), 999)),
                             ("7 // 2", Place(3, 1)), ("(i)//1", Place(Straight(1, 0, 0), 1)),
                             ("5000 * i - 4", Place(Straight(5000, 0, -4), 1))):
            self.assertTrue(read_place(text=text) == wanted, text)

    def test_wrong_texts(self):
        for text, column in (("", 1), ("  ", 3), ("n //", 5), ("n // 2 + 1", 8), ("(n", 3), ("(n)", 4), ("i]", 2),
                             ("n\n", 2), ("\nn", 1), ("n + \n", 5), ("n // \n2", 6), ("(n + 1) / 2", 9), ("a", 1),
                             ("n + 1 // 2", 7), ("01", 1), ("n // -1", 6), (" \t", 2)):
            with self.assertRaises(BadText) as caught:
                read_place(text)
            self.assertEqual((caught.exception.line, caught.exception.column), (1, column), text)

    def test_divisors(self):
        for text in ("n // 0", "(n + 1) // 0"):
            with self.assertRaises(BadNumber) as caught:
                read_place(text)
            self.assertEqual((caught.exception.what, caught.exception.number), ("divisor", 0))


def random_sum(chance, with_i=True):
    return Straight(chance.choice([0, 0, 1, -1, chance.randint(-12, 12)]) if with_i else 0,
                    chance.choice([0, 1, -1, chance.randint(-12, 12)]), chance.choice([0, 1, chance.randint(-999, 999)]))


def random_statement(chance):
    names = ("a", "b", "x", "abcdefgh")
    reads = [Read(chance.choice(names), Place(random_sum(chance), chance.randint(1, 3)),
                  factor=chance.choice([1, -1, 7, -999, 999])) for _ in range(chance.randint(0, 3))]
    conditions = []
    for _ in range(chance.randint(0, 3)):
        modulus = chance.randint(2, 4)
        conditions.append(chance.choice([AtLeast(random_sum(chance)), Rest(random_sum(chance), modulus, modulus - 1)]))
    return Statement(chance.choice(names), random_sum(chance), chance.choice([0, 1, -1, chance.randint(-999, 999)]),
                     reads=reads, conditions=conditions)


def random_program(chance):
    loops = []
    for _ in range(chance.randint(0, 4)):
        step = chance.choice([1, 1, 2, 16])
        low = Place(Straight(0, chance.randint(0, 3), chance.randint(-9, 9)), 1 if step > 1 else chance.randint(1, 3))
        high = Place(Straight(0, chance.randint(0, 3), chance.randint(-999, 999)), chance.randint(1, 3))
        statements = [random_statement(chance) for _ in range(chance.randint(0, 4))]
        loops.append(Loop(low, high, statements, step=step, down=chance.random() < 0.4))
    return Program(loops)


class ProgramTextTest(unittest.TestCase):
    def test_one_form(self):
        head = "for i from 0 below n:\n"
        for line, wanted in (
            ("a[0 * i] = 0", "a[0] = 0"), ("a[-1*i - 3] = - 1", "a[-i - 3] = -1"),
            ("a[12*n - 12*i] = 3*b[i] + 0", "a[-12 * i + 12 * n] = 3 * b[i]"),
            ("a[i] = -2 * b[i//2] - c[(2*i+n) // 3]", "a[i] = -2 * b[i // 2] - c[(2 * i + n) // 3]"),
            ("a[i] = -b[-i // 2] - 1", "a[i] = -1 - b[-i // 2]"),
            ("a[i] = b[(i + 1) // 2] + c[2 * n // 3]", "a[i] = b[(i + 1) // 2] + c[2 * n // 3]"),
            ("if 5 <= i: a[i] = 1", "if i - 5 >= 0: a[i] = 1"), ("if 5 > 4: a[i] = 1", "if 0 >= 0: a[i] = 1"),
            ("if 4 > 4: a[i] = 1", "if -1 >= 0: a[i] = 1"), ("if 5 mod 2 == 0: a[i] = 1", "if 0 mod 2 == 1: a[i] = 1"),
            ("if (i - n + 1) mod 4 == 0: a[i] = 1", "if (i + 3 * n) mod 4 == 3: a[i] = 1"),
            ("if -i mod 3 == 0 and n > 0: a[i] = 1", "if 2 * i mod 3 == 0 and n - 1 >= 0: a[i] = 1"),
        ):
            self.assertEqual(program_text(read_program(head + " " + line)), head + "    " + wanted + "\n")
        for line, wanted in (
            ("for i from -4 below 3*n-7 by 1:", "for i from -4 below 3 * n - 7:"),
            ("for i from (n+0)//3 below (3*n)//2 down:", "for i from n // 3 below 3 * n // 2 down:"),
            ("for i from 0 below n - n by 16 down:", "for i from 0 below 0 by 16 down:"),
            ("for i from (2 * n - 3) // 4 below 5 // 2:", "for i from (n - 2) // 2 below 2:"),
        ):
            self.assertEqual(program_text(program=read_program(line)), wanted + "\n")
        self.assertEqual(program_text(Program([])), "")

    def test_read_back(self):
        chance = random.Random(72)
        for _ in range(150):
            program = random_program(chance)
            text = program_text(program)
            told = read_program(text)
            self.assertTrue(same_programs(program, told), text)
            self.assertEqual(told.arrays, program.arrays)
            self.assertEqual(program_text(told), text)
            self.assertEqual(wrong_place(text), None)


if __name__ == "__main__":
    unittest.main()
