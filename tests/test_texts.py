"""Texts of webs, pools and programs [14.2]."""

import itertools
import random
import re
import unittest

from rootshared.base.pools import Pool, star_pool
from rootshared.base.webs import Web, full_web, silent_web
from rootshared.errors import InvalidPool, InvalidProgram, InvalidWeb, ParseError
from rootshared.make.makers import herald_program, made_program
from rootshared.programs.programs import Program
from rootshared.text.texts import read_pool, read_program, read_web, write_pool, write_program, write_web
from tests.helpers import LINE, TELL, Checks, odd_values, some_heard, wrong_pools, wrong_programs
from tests.slow import drawn_pools, drawn_programs, known_pools, small_pools

NUMBER = "(0|[1-9][0-9]*)"
ROW = f"(-|{NUMBER}(,{NUMBER})*)"
SIZES = f"{NUMBER} {NUMBER}"
STARTS = f"{NUMBER}/{NUMBER}( {NUMBER}/{NUMBER})*"
DECISIONS = f"(-|{NUMBER}={NUMBER}( {NUMBER}={NUMBER})*)"
MOVE = f"{NUMBER} (-|{NUMBER})(,(-|{NUMBER}))*:{NUMBER}"


def web_text(heard):
    return " ".join(",".join(map(str, row)) if row else "-" for row in heard)


def heard_of(text):
    """What is heard by the text of a web, if it has the form of one."""
    return tuple(() if piece == "-" else tuple(int(word) for word in piece.split(",")) for piece in text.split(" "))


def is_heard(heard):
    """Whether what is heard is that of a web."""
    rows = [(house, row) for house, row in enumerate(heard)]
    return len(heard) <= 5 and all(sorted(set(row)) == list(row) and house not in row and all(other < len(heard) for other in row)
                                   for house, row in rows)


def web_answer(text):
    """What is heard, or the index that the error keeps in a list."""
    for at, piece in enumerate(text.split(" ")):
        if not re.fullmatch(ROW, piece):
            return [at]
    return heard_of(text) if is_heard(heard_of(text)) else [None]


def pool_answer(text):
    """What is heard in each web, or the index that the error keeps in a list."""
    pieces = text.split(" | ")
    for at, piece in enumerate(pieces):
        if not re.fullmatch(f"{ROW}( {ROW})*", piece):
            return [at]
    rows = tuple(heard_of(piece) for piece in pieces)
    right = all(is_heard(heard) and len(heard) == len(rows[0]) for heard in rows)
    return rows if right and len(rows) <= 8 and len(set(rows)) == len(rows) else [None]


def program_answer(text):
    """The five parts of the program, or the index that the error keeps in a list."""
    pieces = text.split("; ")
    for at, piece in enumerate(pieces):
        if not re.fullmatch((SIZES, STARTS, DECISIONS, MOVE)[min(at, 3)], piece):
            return [at]
    if len(pieces) < 3:
        return [None]
    numbers = [[int(word) for word in re.findall("[0-9]+", piece)] for piece in pieces]
    size, states = numbers[0]
    starts = list(zip(numbers[1][::2], numbers[1][1::2]))
    decisions = list(zip(numbers[2][::2], numbers[2][1::2]))
    moves = []
    for piece, row in zip(pieces[3:], numbers[3:]):
        heard = tuple(None if word == "-" else int(word) for word in piece.split(" ")[1].split(":")[0].split(","))
        moves.append(((row[0], heard), row[-1]))
    return (size, states, starts, moves, decisions) if are_parts(size, states, starts, moves, decisions) else [None]


def are_parts(size, states, starts, moves, decisions):
    if not 1 <= size <= 5 or not 1 <= states <= 400 or len(starts) != size or len(moves) > 4000:
        return False
    told = [state for pair in starts for state in pair] + [state for state, _ in decisions] + [later for _, later in moves]
    told += [state for (_, heard), _ in moves for state in heard if state is not None]
    if any(state >= states for state in told) or any(decision > 1 for _, decision in decisions):
        return False
    if [state for state, _ in decisions] != sorted({state for state, _ in decisions}):
        return False
    keys = [(state, tuple(400 if other is None else other for other in heard)) for (state, heard), _ in moves]
    if keys != sorted(set(keys)) or any(len(heard) != size or state not in heard for (state, heard), _ in moves):
        return False
    made = dict(decisions)
    return all(state not in made or made.get(later) == made[state] for (state, _), later in moves)


def near_texts(text, chance, many):
    """Texts near a text: signs left out, put in and exchanged, pieces doubled, left out and exchanged."""
    yield text
    signs = "0123456789 -,|;:/=x\n+_."
    for _ in range(many):
        at, other = sorted((chance.randrange(len(text) + 1), chance.randrange(len(text) + 1)))
        sign = chance.choice(signs)
        yield text[:at] + text[at + 1:]
        yield text[:at] + sign + text[at:]
        yield text[:at] + sign + text[at + 1:]
        yield text[:at] + chance.choice(("00", "01", "10 ", " | ", "; ", "- ", "9" * 60, "9" * 61, "1" + "0" * 1999)) + text[at:]
        yield text[:at] + text[other:] + text[at:other]
        yield text[:other] + text[at:]
    for sign in (" ", " | ", "; ", ","):
        pieces = text.split(sign)
        for at in range(min(len(pieces), 6)):
            yield sign.join(pieces[:at] + pieces[at:at + 1] * 2 + pieces[at + 1:])
            yield sign.join(pieces[:at] + pieces[at + 1:])
            yield sign.join(pieces[:at] + ["0" + pieces[at]] + pieces[at + 1:])
            yield sign.join(pieces[:at] + pieces[at:][::-1])
            yield sign.join(pieces[:at] + [""] + pieces[at:])
    yield from (text + " ", " " + text, text + "\n", text.upper(), text * 2, "", " ", "-", "- ", "|", " | ", ";", "; ", "0", "-1")


class Texts(Checks):
    def parsed(self, read, text, told):
        """What is read from the text, or a list of the index that the error keeps; which of these it is goes to `told`."""
        try:
            value = read(text)
        except ParseError as error:
            told["none" if error.at is None else "index"] = told.get("none" if error.at is None else "index", 0) + 1
            return [error.at]
        told["value"] = told.get("value", 0) + 1
        return value

    def test_webs(self):
        for heard in some_heard():
            text = write_web(Web(heard))
            self.same(text, web_text(heard))
            self.same(read_web(text), Web(heard))

    def test_texts_near_those_of_webs(self):
        chance, told = random.Random(161), {}
        for heard in list(some_heard())[::9]:
            for text in near_texts(web_text(heard), chance, 20):
                found, wanted = self.parsed(read_web, text, told), web_answer(text)
                self.same(found.heard if isinstance(found, Web) else found, wanted)
                if isinstance(found, Web):
                    self.same(write_web(found), text)
        self.assertTrue(min(told.values()) > 100 and len(told) == 3, told)

    def test_pools(self):
        for pool in list(small_pools()) + known_pools() + list(drawn_pools(162, (3, 4, 5), (1, 4, 8), 3)):
            text = write_pool(pool)
            self.same(text, " | ".join(web_text(web.heard) for web in pool.webs))
            self.same(read_pool(text), pool)

    def test_texts_near_those_of_pools(self):
        chance, told = random.Random(163), {}
        for pool in known_pools() + list(drawn_pools(164, (2, 3, 5), (1, 3), 3)) + list(drawn_pools(165, (5,), (8,), 2)):
            for text in near_texts(write_pool(pool), chance, 30):
                found, wanted = self.parsed(read_pool, text, told), pool_answer(text)
                self.same(tuple(web.heard for web in found) if isinstance(found, Pool) else found, wanted)
                if isinstance(found, Pool):
                    self.same(write_pool(found), text)
        self.assertTrue(min(told.values()) > 100 and len(told) == 3, told)

    def programs(self):
        found = [TELL, made_program(star_pool(3), 1), herald_program(LINE.part((0, 2)), 0), Program(1, 1, ((0, 0),), {}, {})]
        found.extend(drawn_programs(166, (1, 2, 3), (1, 3, 12), 3))
        return found

    def test_programs(self):
        for program in self.programs():
            text = write_program(program)
            decisions = " ".join(f"{state}={decision}" for state, decision in sorted(program.decisions.items()))
            parts = [f"{program.size} {program.states}", " ".join(f"{one}/{other}" for one, other in program.starts), decisions or "-"]
            rows = sorted(program.moves, key=lambda move: (move[0], [(state is None, state or 0) for state in move[1]]))
            for state, heard in rows:
                told = ",".join("-" if other is None else str(other) for other in heard)
                parts.append(f"{state} {told}:{program.moves[state, heard]}")
            self.same(text, "; ".join(parts))
            self.same(read_program(text), program)

    def test_texts_near_those_of_programs(self):
        chance, told = random.Random(167), {}
        for program in self.programs():
            for text in near_texts(write_program(program), chance, 25):
                found, wanted = self.parsed(read_program, text, told), program_answer(text)
                if isinstance(found, Program):
                    wanted = Program(wanted[0], wanted[1], tuple(wanted[2]), dict(wanted[3]), dict(wanted[4]))
                    self.same(write_program(found), text)
                self.same(found, wanted)
        self.assertTrue(min(told.values()) > 100 and len(told) == 3, told)

    def test_a_program_with_as_much_as_there_can_be(self):
        moves = {(state, (state, other)): other for state in range(10) for other in range(400)}
        full = Program(2, 400, ((399, 1), (2, 3)), moves, {})
        self.same(read_program(write_program(full)), full)
        self.same(self.refused(ParseError, read_program, write_program(full) + "; 10 10,0:0").at, None)
        self.same(self.refused(ParseError, read_program, write_program(full) + "; 10 10,0").at, 4003)


class ByHand(Checks):
    def check_errors(self, read, rows):
        for text, at in rows:
            self.same(self.refused(ParseError, read, text).at, at)

    def test_webs(self):
        self.same((read_web("1,2 - 0"), read_web("-"), write_web(full_web(3))), (Web(((1, 2), (), (0,))), silent_web(1), "1,2 0,2 0,1"))
        self.check_errors(read_web, (
            ("", 0), (" ", 0), ("- ", 1), (" -", 0), ("-  -", 1), ("1 00", 1), ("01 -", 0), ("1, -", 0), (",1 -", 0), ("-,1 -", 0),
            ("--", 0), ("1;2", 0), ("- 0 |", 2), ("+1 -", 0), ("1.0 -", 0), ("a", 0), ("-\n", 0), ("- -1", 1), ("1_0 -", 0),
            ("0", None), ("1", None), ("1,1 -", None), ("2,1 - -", None), ("- - - - - -", None), ("2 -", None), ("- 1", None),
            ("9" * 60 + " -", None), ("9" * 61 + " -", None), ("9" * 5000 + " -", None), ("- 0" + "0" * 70, 1)))

    def test_pools(self):
        self.check_errors(read_pool, (
            ("", 0), (" | ", 0), ("- 0 | ", 1), ("- 0 |", 0), ("- 0|1 -", 0), ("- 0 |  1 -", 1), ("- 0 | 1 - | x", 2), ("- 00 | 1 -", 0),
            ("- 0 | 1 -\n", 1), ("- 1 | 1 x", 1), ("- 0 | - 0", None), ("- 0 | -", None), ("- 1 | 1 -", None), ("1", None),
            (" | ".join(["-"] * 9), None), ("- 0 | 1 - | 1 0 | - - | 0 -", None), ("- " + "7" * 4400, None)))
        self.same(read_pool("- 0 | 1 - | 1 0 | - -").webs[3], silent_web(2))

    def test_programs(self):
        text = write_program(TELL)
        self.same(text[:50], "2 5; 0/1 2/2; 3=0 4=1; 0 0,2:3; 0 0,-:3; 1 1,2:4; ")
        self.same(read_program("1 1; 0/0; -"), Program(1, 1, ((0, 0),), {}, {}))
        self.check_errors(read_program, (
            ("", 0), ("1", 0), ("1 1 1", 0), ("1 1;", 0), ("1 1", None), ("1 1; 0/0", None), ("1 1; 0/0;", 1), ("1 1; 0/0; ", 2),
            ("1 1; 0/0; -; ", 3), ("1 1; 0/0; -; -", 3), ("1 1;0/0; -", 0), ("01 1; 0/0; -", 0), ("1 1; 0/; -", 1), ("1 1; -; -", 1),
            ("1 1; 0/0/0; -", 1), ("1 1; 0/0 ; -", 1), ("1 1; 0/0; 0=", 2), ("1 1; 0/0; 0=0 ", 2), ("1 1; 0/0; 0=00", 2),
            ("1 1; 0/0; -; 0 0:0:0", 3), ("1 1; 0/0; -; 0 0", 3), ("1 1; 0/0; -; 0 :0", 3), ("1 1; 0/0; -; 0 0,:0", 3),
            ("1 1; 0/0; -; - 0:0", 3), ("1 1; 0/0; -; 0 0:-", 3), ("1 1; 0/0; -; 0  0:0", 3), ("1 1; 0/0; -; 0 0:0 ", 3),
            ("0 1; 0/0; -", None), ("6 1; 0/0; -", None), ("1 0; 0/0; -", None), ("1 401; 0/0; -", None), ("2 1; 0/0; -", None),
            ("1 1; 0/0 0/0; -", None), ("1 1; 0/1; -", None), ("1 1; 0/0; 0=2", None), ("1 1; 0/0; 1=0", None),
            ("1 1; 0/0; 0=0 0=0", None), ("1 2; 0/0; 1=0 0=0", None), ("1 1; 0/0; -; 0 -:0", None), ("1 1; 0/0; -; 0 0,0:0", None),
            ("1 2; 0/0; -; 0 1:0", None), ("1 2; 0/0; 0=0; 0 0:1", None), ("1 2; 0/0; -; 0 0:1; 0 0:1", None),
            ("1 2; 0/0; -; 1 1:0; 0 0:1", None), ("2 1; 0/0 0/0; -; 0 -,0:0; 0 0,-:0", None), ("1 1; 0/0; -; 0 0:" + "9" * 5000, None),
            ("2 1; 0/0 0/0; -; 0 0,-:0; 0 0,0:0", None), ("1 1; 0/0; x; 0", 2), ("x; y", 0), ("1 1; 0/0; -; 1 1:0; x", 4)))
        self.same(len(read_program("2 1; 0/0 0/0; -; 0 0,0:0; 0 0,-:0; 0 -,0:0")), 3)

    def test_values_that_are_no_strings(self):
        for read in (read_web, read_pool, read_program):
            for value in odd_values() + [b"-", ("-",), ["- 0"], read_web("-")]:
                if not isinstance(value, str):
                    self.assertIsNone(self.refused(ParseError, read, value).at)

    def test_odd_strings(self):
        for value in [value for value in odd_values() if isinstance(value, str)]:
            for read, answer in ((read_web, web_answer), (read_pool, pool_answer), (read_program, program_answer)):
                self.same([self.refused(ParseError, read, value).at], answer(value))

    def test_writing_refuses_other_values(self):
        webs = [value for value in odd_values() if not isinstance(value, Web)]
        self.check_refusals(write_web, (silent_web(2),), ((InvalidWeb, webs),))
        self.check_refusals(write_pool, (LINE,), ((InvalidPool, wrong_pools()),))
        self.check_refusals(write_program, (TELL,), ((InvalidProgram, wrong_programs()),))

    def test_all_short_texts(self):
        for length in range(5):
            for signs in itertools.product("01 -,|", repeat=length):
                text = "".join(signs)
                for read, answer in ((read_web, web_answer), (read_pool, pool_answer)):
                    try:
                        found = read(text)
                    except ParseError as error:
                        found = [error.at]
                    if isinstance(found, Web):
                        found = found.heard
                    elif isinstance(found, Pool):
                        found = tuple(web.heard for web in found)
                    self.assertEqual(found, answer(text), text)


if __name__ == "__main__":
    unittest.main()
