"""The texts of webs, pools and programs."""

from rootshared.base.plain import TOO_LONG
from rootshared.base.pools import Pool, check_pool
from rootshared.base.webs import Web
from rootshared.errors import InvalidPool, InvalidProgram, InvalidWeb, ParseError
from rootshared.programs.programs import Program, check_program

DIGITS = "0123456789"
# No integer that is passed may have more digits.
MOST_DIGITS = 60
# What stands where there is nothing else.
NOTHING = "-"


def write_web(web):
    """The text of the web."""
    if not isinstance(web, Web):
        raise InvalidWeb("no web")
    return " ".join([",".join([str(other) for other in row]) or NOTHING for row in web.heard])


def write_pool(pool):
    """The text of the pool."""
    check_pool(pool)
    return " | ".join([write_web(web) for web in pool])


def write_program(program):
    """The text of the program."""
    check_program(program)
    starts = " ".join([f"{zero}/{one}" for zero, one in program.starts])
    decisions = " ".join([f"{state}={decision}" for state, decision in program.decisions.items()])
    moves = [f"{state} {heard_text(heard)}:{later}" for (state, heard), later in program.moves.items()]
    return "; ".join([f"{program.size} {program.states}", starts, decisions or NOTHING, *moves])


def heard_text(heard):
    """What a house hears, in the text of a move."""
    return ",".join([NOTHING if state is None else str(state) for state in heard])


def read_web(text):
    """The web that has this text."""
    check_text(text)
    check_forms([is_row_text(piece) for piece in text.split(" ")])
    try:
        return web_of(text)
    except InvalidWeb:
        raise ParseError(None) from None


def read_pool(text):
    """The pool that has this text."""
    check_text(text)
    pieces = text.split(" | ")
    check_forms([all([is_row_text(row) for row in piece.split(" ")]) for piece in pieces])
    try:
        return Pool(tuple([web_of(piece) for piece in pieces]))
    except (InvalidWeb, InvalidPool):
        raise ParseError(None) from None


def read_program(text):
    """The program that has this text."""
    check_text(text)
    pieces = text.split("; ")
    check_forms([is_program_piece(at, piece) for at, piece in enumerate(pieces)])
    # The first three are there in each text of a program.
    if len(pieces) < 3:
        raise ParseError(None)
    try:
        program = program_of(pieces)
    except InvalidProgram:
        raise ParseError(None) from None
    # Decisions and moves ascend in it, each once.
    if write_program(program) != text:
        raise ParseError(None)
    return program


def check_text(value):
    """Refuse what is no string."""
    if not isinstance(value, str):
        raise ParseError(None)


def check_forms(told):
    """Refuse a text by its first piece that has not the form of one; `told` has for each whether it has."""
    if not all(told):
        raise ParseError(told.index(False))


def is_number_text(text):
    """Whether the text has the form of a number, of whatever length."""
    if text == "" or not all([sign in DIGITS for sign in text]):
        return False
    return text == "0" or text[0] != "0"


def is_row_text(text):
    """Whether the text has the form of a piece of a web."""
    return text == NOTHING or all([is_number_text(word) for word in text.split(",")])


def is_pair_text(text, sign):
    """Whether the text has the form of two numbers with the sign between them."""
    words = text.split(sign)
    return len(words) == 2 and all([is_number_text(word) for word in words])


def is_program_piece(at, piece):
    """Whether the piece has the form of the one with this index in the text of a program."""
    if at == 0:
        return is_pair_text(piece, " ")
    if at == 1:
        return all([is_pair_text(word, "/") for word in piece.split(" ")])
    if at == 2:
        return piece == NOTHING or all([is_pair_text(word, "=") for word in piece.split(" ")])
    return is_move_text(piece)


def is_move_text(text):
    """Whether the text has the form of a move."""
    state, _, move = text.partition(" ")
    heard, _, later = move.partition(":")
    if not is_number_text(state) or not is_number_text(later):
        return False
    return all([word == NOTHING or is_number_text(word) for word in heard.split(",")])


def number_of(text):
    """The number of a text that has the form of one, or what is no number anywhere if it is too long."""
    if len(text) > MOST_DIGITS:
        return TOO_LONG
    return int(text)


def numbers_of(text, sign):
    """The tuple of the numbers with the sign between them."""
    return tuple([number_of(word) for word in text.split(sign)])


def web_of(text):
    """The web of a text of whose pieces all have the form of one."""
    return Web(tuple([() if piece == NOTHING else numbers_of(piece, ",") for piece in text.split(" ")]))


def program_of(pieces):
    """The program of the pieces of a text, of which each has the form of one."""
    size, states = numbers_of(pieces[0], " ")
    starts = tuple([numbers_of(word, "/") for word in pieces[1].split(" ")])
    decisions = {}
    if pieces[2] != NOTHING:
        decisions = dict([numbers_of(word, "=") for word in pieces[2].split(" ")])
    moves = {}
    for piece in pieces[3:]:
        state, _, move = piece.partition(" ")
        told, _, later = move.partition(":")
        heard = tuple([None if word == NOTHING else number_of(word) for word in told.split(",")])
        moves[(number_of(state), heard)] = number_of(later)
    return Program(size, states, starts, moves, decisions)
