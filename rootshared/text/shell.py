"""The shell: commands for a desk, and answers."""

from rootshared.desk.desk import MOST_GRADED, Desk, is_name
from rootshared.errors import (InvalidNumber, InvalidOperation, InvalidPool, InvalidWeb, NothingToUndo, ParseError,
                               Refused, TooMany, UnknownName)
from rootshared.groups.groups import can_agree, closed_groups, obstacle, spaced
from rootshared.text.texts import MOST_DIGITS, is_number_text, read_pool, read_web, write_pool

# What can stand behind the first word of a command: capitals tell kinds of words, all else stands for itself.
FORMS = {
    "enter": (("NAME", "POOL"),),
    "remove": (("NAME",),),
    "add": (("NAME", "WEB"),),
    "strike": (("NAME", "NUMBER"),),
    "merge": (("NAME", "NAME", "NAME"),),
    "pin": (("within", "NAME", "ROUNDS"), ("able", "NAME"), ("never", "NAME"), ("part", "NAME", "NAME")),
    "unpin": (("within", "NAME", "ROUNDS"), ("able", "NAME"), ("never", "NAME"), ("part", "NAME", "NAME")),
    "undo": ((), ("NUMBER",)),
    "redo": ((), ("NUMBER",)),
    "grade": (("NAME",),),
    "grades": ((),),
    "groups": (("NAME",),),
    "obstacle": (("NAME",),),
    "show": (("NAME",),),
    "names": ((),),
}
# Those that are answered by the news.
CHANGING = ("enter", "remove", "add", "strike", "merge", "pin", "unpin", "undo", "redo")


class Shell:
    """A desk that is worked at by commands, which are texts."""

    def __init__(self):
        self._desk = Desk()
        # The commands that were answered without an error.
        self._answered = []

    def __call__(self, command):
        word, values = read_command(command)
        if word is None:
            return "what"
        try:
            answer = answer_to(self._desk, word, values)
        except UnknownName as unknown:
            return f"unknown {unknown.wanted}"
        except Refused as refused:
            return f"refused {spaced(refused.claim)}"
        except TooMany as beyond:
            return f"many {beyond.limit}"
        except NothingToUndo as past:
            return f"nothing {past.many}"
        except (InvalidOperation, InvalidNumber, InvalidWeb, InvalidPool):
            return "no"
        self._answered.append(command)
        return answer

    def desk(self):
        """A twin of the desk."""
        return self._desk.twin()

    def __len__(self):
        return len(self._answered)

    def __str__(self):
        return f"shell of {len(self._answered)} commands"


def read_command(command):
    """The first word of a command, and the values of the others; None twice if it is no command."""
    if isinstance(command, str):
        word, *others = command.split(" ")
        for form in FORMS.get(word, ()):
            values = values_of(form, others)
            if values is not None:
                return word, values
    return None, None


def values_of(form, words):
    """The values of the words, or None if they have not the form."""
    if form[-1:] == ("POOL",) or form[-1:] == ("WEB",):
        # Such a text is all that is left, with its blanks.
        last = len(form) - 1
        words = [*words[:last], " ".join(words[last:])]
    if len(words) != len(form):
        return None
    values = [value_of(kind, word) for kind, word in zip(form, words)]
    if any([value is None for value in values]):
        return None
    return values


def value_of(kind, word):
    """The value of a word of this kind, or None if it is none."""
    if kind == "NAME":
        return word if is_name(word) else None
    if kind == "NUMBER" or kind == "ROUNDS":
        return short_number(word, kind == "ROUNDS")
    try:
        if kind == "POOL":
            return read_pool(word)
        if kind == "WEB":
            return read_web(word)
    except ParseError:
        return None
    return word if word == kind else None


def short_number(word, is_pinned):
    """The number of at most sixty digits, which a pin can tell if it is to be pinned, or None if it is none."""
    if not is_number_text(word) or len(word) > MOST_DIGITS:
        return None
    number = int(word)
    if is_pinned and number > MOST_GRADED:
        return None
    return number


def answer_to(desk, word, values):
    """The answer to a command that begins with the word, with the values of the others."""
    if word in CHANGING:
        return news_text(changed(desk, word, values))
    if word == "names":
        return " ".join(list(desk)) or "none"
    if word == "grades":
        return " ".join([f"{name}:{grade}" for name, grade in desk.grades.items()]) or "none"
    return told_of(word, desk[values[0]], desk.grades[values[0]])


def changed(desk, word, values):
    """The news of the change that is asked for."""
    if word == "enter":
        return desk.enter(*values)
    if word == "remove":
        return desk.remove(values[0])
    if word == "add":
        return desk.add_web(*values)
    if word == "strike":
        return desk.strike_web(*values)
    if word == "merge":
        return desk.merge(*values)
    if word == "pin":
        return desk.pin(tuple(values))
    if word == "unpin":
        return desk.unpin(tuple(values))
    many = values[0] if values else 1
    if word == "undo":
        return desk.undo(many=many)
    return desk.redo(many=many)


def told_of(word, pool, grade):
    """What the word asks of a pool, which has the grade."""
    if word == "grade":
        return str(grade)
    if word == "groups":
        return ", ".join([spaced(group) for group in closed_groups(pool)])
    if word == "show":
        return write_pool(pool)
    if can_agree(pool):
        return "none"
    return spaced(obstacle(pool)[0])


def news_text(news):
    """The news, in words."""
    return ", ".join([f"{name} {grade_text(old)} {grade_text(new)}" for name, old, new in news]) or "none"


def grade_text(grade):
    """The grade, or what stands for none."""
    return "-" if grade is None else str(grade)
