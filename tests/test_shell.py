"""The shell [14.3], [14.4]."""

import random
import unittest

from rootshared.base.pools import Pool, chain_pool, star_pool
from rootshared.base.webs import Web, chain_web, silent_web
from rootshared.desk.desk import Desk
from rootshared.errors import InvalidNumber, InvalidOperation, InvalidPool, InvalidWeb, NothingToUndo, Refused, TooMany, UnknownName
from rootshared.text.shell import Shell
from rootshared.text.texts import write_pool, write_web
from tests.helpers import LINE, Checks, odd_values, repr_of
from tests.slow import rows_of, slow_closed, slow_closed_groups, slow_common_roots
from tests.test_desk import EIGHT, LATER, Changes, Model
from tests.test_texts import near_texts, pool_answer, web_answer


def news_answer(news):
    told = [" ".join([name] + ["-" if grade is None else str(grade) for grade in row]) for name, *row in news]
    return ", ".join(told) if told else "none"


def error_answer(error, told):
    if error is UnknownName:
        return f"unknown {told}"
    if error is Refused:
        return "refused " + " ".join(map(str, told))
    if error is TooMany:
        return f"many {told}"
    if error is NothingToUndo:
        return f"nothing {told}"
    assert error in (InvalidOperation, InvalidNumber, InvalidWeb, InvalidPool)
    return "no"


WORDS = {"enter": "enter", "remove": "remove", "add_web": "add", "strike_web": "strike", "merge": "merge", "pin": "pin", "unpin": "unpin"}


def word_text(word):
    if isinstance(word, Pool):
        return write_pool(word)
    if isinstance(word, Web):
        return write_web(word)
    return " ".join(map(str, word)) if isinstance(word, tuple) else str(word)


class AgainstAModel(Checks):
    def test_many_commands(self):
        told = {}
        for seed in range(20):
            shell, model, changes = Shell(), Model(), Changes(seed)
            right = 0
            for _ in range(200):
                command, wanted = self.drawn(model, changes)
                before = repr_of(shell.desk())
                self.same(shell(command), wanted)
                word = wanted.split(" ")[0]
                told[word] = told.get(word, 0) + 1
                if word in ("unknown", "refused", "many", "nothing", "no"):
                    self.assertEqual(repr_of(shell.desk()), before)
                else:
                    right += 1
                self.same((len(shell), str(shell)), (right, f"shell of {right} commands"))
            self.same(shell.desk().grades, model.grades())
            self.same(shell.desk().pins, model.pins)
        for word in ("unknown", "refused", "many", "nothing", "no", "none"):
            self.assertTrue(told.get(word, 0) > 2, (word, told))

    def drawn(self, model, changes):
        """A command, and the answer that it must have."""
        kind, many = changes.chance.randrange(12), changes.chance.randrange(5)
        if kind < 2:
            word = ("undo", "redo")[kind]
            error, told = getattr(model, word)(many if many else 1)
            return (f"{word} {many}" if many else word), (error_answer(error, told) if error else news_answer(told))
        if kind < 5:
            return self.asked(model, changes.name(), changes.chance.choice(("grade", "groups", "obstacle", "show", "names", "grades")))
        change = changes.draw()
        error, told = getattr(model, change[0])(*change[1:])
        command = " ".join([WORDS[change[0]]] + [word_text(word) for word in change[1:]])
        return command, (error_answer(error, told) if error else news_answer(told))

    def asked(self, model, name, word):
        """A command that changes nothing, and its answer."""
        if word == "names":
            return word, " ".join(sorted(model.pools)) or "none"
        if word == "grades":
            return word, " ".join(f"{other}:{grade}" for other, grade in model.grades().items()) or "none"
        command = f"{word} {name}"
        if name not in model.pools:
            return command, f"unknown {name}"
        rows = model.pools[name]
        if word == "grade":
            return command, str(model.grade(rows))
        if word == "show":
            return command, " | ".join(write_web(Web(heard)) for heard in rows)
        groups = slow_closed_groups(rows)
        if word == "groups":
            return command, ", ".join(" ".join(map(str, group)) for group in groups)
        wrong = [group for group in groups if not slow_common_roots(rows, group)]
        if not wrong:
            return command, "none"
        # Any obstacle is right; the one that is told is judged in a test of its own.
        shell = Shell()
        shell("enter a " + " | ".join(write_web(Web(heard)) for heard in rows))
        group = tuple(map(int, shell("obstacle a").split(" ")))
        assert slow_closed(rows, group) and not slow_common_roots(rows, group)
        return command, " ".join(map(str, group))


def shell_of(*commands):
    made = Shell()
    for command in commands:
        made(command)
    return made


class ByHand(Checks):
    def check(self, rows, *commands):
        """Commands, and their answers one behind the other."""
        shell = shell_of(*commands)
        for command, answer in rows:
            self.same((command, shell(command)), (command, answer))
        return shell

    def test_each_command(self):
        shell = self.check((
            ("names", "none"), ("grades", "none"), ("undo 0", "none"), ("redo 0", "none"), ("undo", "nothing 1"), ("redo 3", "nothing 3"),
            ("enter line - 0 | 1 - | 1 0", "line - never"), ("enter stars - 0 0 | 1 - 1 | 2 2 -", "stars - 1"),
            ("enter far - 0 1 2 3", "far - later"), ("enter one -", "one - 0"), ("names", "far line one stars"),
            ("grades", "far:later line:never one:0 stars:1"), ("grade line", "never"), ("grade far", "later"), ("grade one", "0"),
            ("groups line", "0 1 2"), ("groups stars", "0, 1, 2"), ("obstacle line", "0 1 2"), ("obstacle stars", "none"),
            ("show line", "- 0 | 1 - | 1 0"), ("strike line 1", "line never 1"), ("show line", "- 0 | 1 0"), ("groups line", "0, 1"),
            ("add line 1 -", "line 1 never"), ("show line", "- 0 | 1 0 | 1 -"), ("merge both line line", "both - never"),
            ("merge line stars stars", "line never 1"), ("undo", "line 1 never"), ("redo", "line never 1"), ("undo 2", "both never -, line 1 never"),
            ("redo 2", "both - never, line never 1"), ("remove both", "both never -"), ("undo 99", "nothing 99"),
            ("pin within stars 1", "none"), ("pin able far", "none"), ("pin never both", "no"), ("pin part line stars", "none"),
            ("unpin part stars line", "no"), ("enter line - 0", "refused part line stars"), ("enter far - -", "refused able far"),
            ("enter stars - 0 | - -", "refused within stars 1"), ("strike stars 0", "refused part line stars"),
            ("unpin part line stars", "none"), ("strike stars 0", "none"), ("names", "far line one stars")))
        self.same(str(shell), f"shell of {len(shell)} commands")

    def test_many_news(self):
        self.check((("undo 3", "a 1 -, b 1 -, c never -"), ("redo 3", "a - 1, b - 1, c - never")),
                   "enter c - 0 | 1 - | 1 0", "enter a - 0", "enter b - 0")

    def test_errors(self):
        self.check((
            ("grade b", "unknown b"), ("groups b", "unknown b"), ("obstacle b", "unknown b"), ("show b", "unknown b"), ("remove b", "unknown b"),
            ("add b -", "unknown b"), ("strike b 0", "unknown b"), ("merge c b d", "unknown b"), ("merge c a d", "unknown d"),
            ("merge c d b", "unknown d"), ("add a -", "no"), ("add a - - -", "no"), ("add a - 0", "no"), ("strike a 3", "no"),
            ("strike a " + "9" * 60, "no"), ("merge c a o", "no"), ("strike o 0", "no"), ("pin able b", "no"), ("pin part a a", "no"),
            ("pin within b 1", "no"), ("unpin able a", "no"), ("pin able a", "refused able a"), ("pin within o 0", "none"),
            ("pin within o 0", "no"), ("pin never o", "refused never o"), ("remove o", "no"), ("pin part o a", "refused part o a"),
            ("undo " + "9" * 60, "nothing " + "9" * 60), ("redo 1", "nothing 1"), ("undo 0", "none")),
            "enter a - 0 | 1 - | 1 0", "enter o -")

    def test_limits(self):
        shell = shell_of(*[f"enter {name} -" for name in "abcdefgh"], "enter a " + write_pool(EIGHT))
        for command in ("enter i -", "merge i b c", "add a - - - - -"):
            self.same(shell(command), "many 8")
        for pin in ("within b 0", "within b 1", "within b 2", "within b 3", "able b", "able c", "able d", "part b c"):
            self.same(shell(f"pin {pin}"), "none")
        self.same((shell("pin able e"), shell("pin able b"), shell("pin never e")), ("many 8", "no", "many 8"))
        self.same((shell("remove b"), shell("enter b - 0"), shell("enter i -")), ("no", "refused within b 0", "many 8"))

    def test_what_is_no_command(self):
        shell = shell_of("enter a - 0", "enter b - 0", "pin able a")
        before, many = repr_of(shell.desk()), len(shell)
        wrong = ("", " ", "a", "enter", "enter a", "enter a ", "enter  a - 0", "enter a  - 0", "enter a - 0 ", " enter a - 0", "enter A - 0",
                 "enter abcdefghi - 0", "enter a1 - 0", "enter - 0", "enter a - 0|1 -", "enter a - 0 |1 -", "enter a - 0 | - 0", "enter a 0",
                 "enter a - 0 | 1 - | 1 0 | ", "enter a 00 -", "enter a x", "Enter a - 0", "ENTER a - 0", "enter a - 0\n", "enter\na - 0",
                 "remove", "remove a b", "remove A", "remove a ", "remove  a", "add a", "add a ", "add a 1,1", "add a - 0 | 1 -", "add - -", "add a 0 -",
                 "add a 1", "strike a", "strike a -1", "strike a 01", "strike a x", "strike a 1 1", "strike a 00", "strike a " + "9" * 61,
                 "strike a 1" + "0" * 60, "strike a +1", "strike a 1.0", "strike 0 a", "merge a b", "merge a b c d", "merge a b C", "merge 1 a b",
                 "pin", "pin within a", "pin within a 4", "pin within a -1", "pin within a 01", "pin within a x", "pin within a 1 1",
                 "pin within 1 a", "pin within a " + "9" * 60, "pin within A 1", "pin able", "pin able a b", "pin able A", "pin never", "pin never a 1",
                 "pin part a", "pin part a b c", "pin part a B", "pin a able", "pin Able a", "pin able  a", "pin able a ", "unpin", "unpin able",
                 "unpin within a", "unpin within a 4", "unpin within a 00", "unpin able A", "undo ", "undo  1", "undo -1", "undo 01", "undo x",
                 "undo 1 1", "undo " + "9" * 61, "redo ", "redo a", "redo +1", "redo 1 ", "grade", "grade A", "grade a b", "grade a ", "grades a",
                 "grades ", " grades", "groups", "groups a a", "groups 1", "obstacle", "obstacle a 1", "show", "show a b", "show a\n", "names a",
                 "names ", "name", "twin", "trial", "desk", "None", "enter a - 0 | 1 - | 1 0 | - - | 1 -")
        for command in wrong + tuple(odd_values()) + (None, b"names", ["names"], ("grade", "a")):
            self.same(shell(command), "what")
        self.same((repr_of(shell.desk()), len(shell)), (before, many))

    def test_what_comes_ahead_of_other_errors(self):
        shell = shell_of("enter a - 0", "pin able a")
        for command in ("add b 1,1", "strike b 01", "merge A b c", "merge b c D", "pin within b 4", "unpin within b 4", "remove B"):
            self.same(shell(command), "what")

    def test_texts_near_those_of_pools_and_webs(self):
        chance, told = random.Random(171), {}
        for pool in (LINE, LINE.part((0, 2)), star_pool(3), LATER, EIGHT.part((0, 6)), chain_pool(4)):
            for text in near_texts(write_pool(pool), chance, 15):
                right = pool_answer(text) if "\n" not in text else [0]
                answer = Shell()(f"enter a {text}")
                told[answer] = told.get(answer, 0) + 1
                self.assertIs(answer == "what", isinstance(right, list), text)
            for text in near_texts(write_web(pool.webs[-1]), chance, 15):
                shell = shell_of(f"enter a {write_pool(pool)}")
                right = web_answer(text)
                answer = shell(f"add a {text}")
                told[answer] = told.get(answer, 0) + 1
                self.assertIs(answer == "what", isinstance(right, list), text)
                if not isinstance(right, list):
                    self.assertIs(answer == "no", len(right) != pool.size or right in rows_of(pool), text)
        self.assertTrue({"what", "no", "a - never", "a - 1", "none"} <= set(told), told)


class ShellsAsValues(Checks):
    def test_the_desk_is_a_twin(self):
        shell = shell_of("enter a - 0", "enter b - 0", "pin able a", "undo")
        desk = shell.desk()
        self.assertIsInstance(desk, Desk)
        self.same((desk.redo(), desk.pins, desk.remove("b")), ((), (("able", "a"),), (("b", 1, None),)))
        self.same((shell("names"), shell("redo"), shell.desk().pins), ("a b", "none", (("able", "a"),)))
        self.assertIs(shell.desk() == shell.desk(), True)
        self.same(shell.desk().undo(many=3), (("a", 1, None), ("b", 1, None)))
        self.same((str(Shell()), len(Shell()), len(Shell().desk())), ("shell of 0 commands", 0, 0))

    def test_answers_without_an_error_are_counted(self):
        shell = Shell()
        for command, many in (("enter a - 0", 1), ("enter A - 0", 1), ("grade b", 1), ("grade a", 2), ("names", 3), ("undo 5", 3), ("undo", 4),
                              ("pin able a", 4), (None, 4), ("undo 0", 5), ("redo", 6), ("add a - 0", 6), ("add a 1 -", 7)):
            shell(command)
            self.same(len(shell), many)

    def test_no_iteration(self):
        for call in (iter, list, tuple, sorted):
            with self.assertRaises(TypeError):
                call(shell_of("enter a - 0"))

    def test_equality_accepts_every_value(self):
        for value in odd_values():
            self.assertIs(Shell() == value, False)
            self.assertIs(Shell() != value, True)


if __name__ == "__main__":
    unittest.main()
