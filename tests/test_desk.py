"""Desks [14.1]."""

import itertools
import random
import unittest

from rootshared.base.pools import Pool, chain_pool, muted_pool, star_pool
from rootshared.base.webs import Web, chain_web, full_web, silent_web, star_web
from rootshared.desk.desk import Desk
from rootshared.errors import (InvalidName, InvalidNumber, InvalidOperation, InvalidPool, InvalidWeb, NothingToUndo, Refused,
                               TooMany, UnknownName)
from tests.helpers import (BOTH, LEFT, LINE, RIGHT, SIXTY_DIGITS, Checks, odd_values, repr_of, wrong_numbers, wrong_pools,
                           wrong_undos, wrong_webs)
from tests.slow import drawn_pools, rows_of, slow_can_agree, slow_lot_heralds

LATER = Pool((chain_web(5, 0),))
EIGHT = Pool(tuple(star_web(5, house) for house in range(5)) + tuple(chain_web(5, house) for house in range(3)))
CHANGES = ("enter", "remove", "add_web", "strike_web", "merge", "pin", "unpin")


def slow_grade(rows):
    if not slow_can_agree(rows):
        return "never"
    for rounds in range(4):
        if () not in slow_lot_heralds(rows, rounds):
            return rounds
    return "later"


class Model:
    """A desk by the words of the document: pools as tuples of what is heard, and all that was there."""

    def __init__(self):
        self.pools, self.pins = {}, ()
        self.past, self.undone = [], []
        self.known = {}

    def grade(self, rows):
        if rows not in self.known:
            self.known[rows] = slow_grade(rows)
        return self.known[rows]

    def grades(self, pools=None):
        return {name: self.grade(rows) for name, rows in sorted((self.pools if pools is None else pools).items())}

    def news(self, before):
        """The news, where `before` has the grades that were."""
        after = self.grades()
        found = []
        for name in sorted(set(before) | set(after)):
            if name not in before or name not in after or before[name] != after[name]:
                found.append((name, before.get(name), after.get(name)))
        return tuple(found)

    def holds(self, pin, pools):
        grade = self.grade(pools[pin[1]])
        if pin[0] == "within":
            return grade in (0, 1, 2, 3) and grade <= pin[2]
        if pin[0] == "part":
            return set(pools[pin[1]]) <= set(pools[pin[2]])
        return (pin[0] == "able") == (grade != "never")

    def names_in(self, pin):
        return [word for word in pin[1:] if isinstance(word, str)]

    def refusal(self, pools, pins):
        """The error that stands against these pools and pins, with what it keeps, or None."""
        if any(name not in pools for pin in pins for name in self.names_in(pin)):
            return InvalidOperation, None
        if len(pools) > 8:
            return TooMany, 8
        for pin in pins:
            if not self.holds(pin, pools):
                return Refused, pin
        return None

    def change(self, pools, pins):
        """The error with what it keeps, or None and the news."""
        refusal = self.refusal(pools, pins)
        if refusal:
            return refusal
        before = self.grades()
        self.past.append((self.pools, self.pins))
        self.undone = []
        self.pools, self.pins = pools, pins
        return None, self.news(before)

    def enter(self, name, pool):
        return self.change({**self.pools, name: rows_of(pool)}, self.pins)

    def remove(self, name):
        if name not in self.pools:
            return UnknownName, name
        return self.change({other: rows for other, rows in self.pools.items() if other != name}, self.pins)

    def add_web(self, name, web):
        if name not in self.pools:
            return UnknownName, name
        rows = self.pools[name]
        if len(web.heard) != len(rows[0]):
            return InvalidWeb, None
        if web.heard in rows:
            return InvalidOperation, None
        if len(rows) == 8:
            return TooMany, 8
        return self.change({**self.pools, name: rows + (web.heard,)}, self.pins)

    def strike_web(self, name, index):
        if name not in self.pools:
            return UnknownName, name
        rows = self.pools[name]
        if not 0 <= index < len(rows):
            return InvalidNumber, index
        if len(rows) == 1:
            return InvalidOperation, None
        return self.change({**self.pools, name: rows[:index] + rows[index + 1:]}, self.pins)

    def merge(self, name, one, other):
        for wanted in (one, other):
            if wanted not in self.pools:
                return UnknownName, wanted
        rows, more = self.pools[one], self.pools[other]
        if len(rows[0]) != len(more[0]):
            return InvalidPool, None
        rows = rows + tuple(heard for heard in more if heard not in rows)
        if len(rows) > 8:
            return TooMany, 8
        return self.change({**self.pools, name: rows}, self.pins)

    def is_pin(self, pin):
        if any(name not in self.pools for name in self.names_in(pin)):
            return False
        return pin[0] != "part" or pin[1] != pin[2]

    def pin(self, pin):
        if not self.is_pin(pin) or pin in self.pins:
            return InvalidOperation, None
        if len(self.pins) == 8:
            return TooMany, 8
        return self.change(self.pools, self.pins + (pin,))

    def unpin(self, pin):
        if pin not in self.pins:
            return InvalidOperation, None
        return self.change(self.pools, tuple(kept for kept in self.pins if kept != pin))

    def go(self, source, target, many):
        if many > len(source):
            return NothingToUndo, many
        before = self.grades()
        for _ in range(many):
            target.append((self.pools, self.pins))
            self.pools, self.pins = source.pop()
        return None, self.news(before)

    def undo(self, many):
        return self.go(self.past, self.undone, many)

    def redo(self, many):
        return self.go(self.undone, self.past, many)

    def twin(self):
        made = Model()
        made.pools, made.pins, made.past, made.undone = self.pools, self.pins, list(self.past), list(self.undone)
        made.known = self.known
        return made


KEPT = {UnknownName: "wanted", TooMany: "limit", Refused: "claim", InvalidNumber: "given", NothingToUndo: "many"}


class Changes:
    """Changes drawn at random, by few names, pools and webs, so that they meet."""

    def __init__(self, seed):
        self.chance = random.Random(seed)
        self.pools = [LINE, LINE.part((0, 2)), Pool((RIGHT, LEFT)), Pool((BOTH,)), star_pool(3), muted_pool(3), chain_pool(3),
                      Pool((silent_web(2),)), Pool((silent_web(1),)), Pool((chain_web(3, 0),)), LATER, EIGHT, EIGHT.part((0, 5))]
        self.pools.extend(drawn_pools(seed, (3, 4), (2, 4), 2))
        # Few sizes meet more often.
        size = self.chance.choice((2, 3, 5))
        self.pools = [pool for pool in self.pools if pool.size == size] * 4 + self.pools
        self.names = list("abcdefghij")[:self.chance.choice((4, 7, 10))]

    def name(self):
        return self.chance.choice(self.names)

    def web(self):
        return self.chance.choice(self.chance.choice(self.pools).webs)

    def pin(self):
        kind = self.chance.randrange(4)
        if kind == 0:
            return "within", self.name(), self.chance.randrange(4)
        if kind == 1:
            return "part", self.name(), self.name()
        return ("able", "never")[kind - 2], self.name()

    def draw(self):
        kind = self.chance.choice(("enter",) * 4 + ("remove", "add_web", "strike_web", "merge", "pin", "pin", "pin", "unpin"))
        name = self.name()
        given = {"enter": lambda: (name, self.chance.choice(self.pools)), "remove": lambda: (name,),
                 "add_web": lambda: (name, self.web()), "strike_web": lambda: (name, self.chance.randrange(5)),
                 "merge": lambda: (name, self.name(), self.name()), "pin": lambda: (self.pin(),), "unpin": lambda: (self.pin(),)}
        return (kind,) + given[kind]()


class AgainstAModel(Checks):
    def check_state(self, desk, model):
        self.same(list(desk), sorted(model.pools))
        self.same(desk.pools, {name: Pool(tuple(Web(heard) for heard in rows)) for name, rows in sorted(model.pools.items())})
        self.same((desk.grades, desk.pins), (model.grades(), model.pins))
        self.same((len(desk), str(desk)), (len(model.pools), f"desk of {len(model.pools)} pools, {len(model.pins)} pins"))

    def check_answer(self, wanted, desk, call, given):
        """The change is refused without effect, or has the news."""
        error, told = wanted
        if error is None:
            self.same(call(*given), told)
            return "done"
        before = repr_of(desk)
        caught = self.refused(error, call, *given)
        if error in KEPT:
            self.same(getattr(caught, KEPT[error]), told)
        self.assertEqual(repr_of(desk), before)
        return error

    def test_many_changes(self):
        told = {}
        for seed in range(20):
            desk, model, changes = Desk(), Model(), Changes(seed)
            for _ in range(200):
                kind = self.step(desk, model, changes)
                told[kind] = told.get(kind, 0) + 1
                self.check_state(desk, model)
        for kind in CHANGES:
            self.assertTrue(told.get((kind, "done"), 0) > 5, (kind, told))
        for kind, error in (("enter", Refused), ("enter", TooMany), ("remove", InvalidOperation), ("remove", UnknownName),
                            ("add_web", InvalidWeb), ("add_web", InvalidOperation), ("strike_web", InvalidNumber),
                            ("strike_web", InvalidOperation), ("merge", UnknownName), ("merge", InvalidPool), ("pin", Refused),
                            ("pin", InvalidOperation), ("unpin", InvalidOperation), ("merge", Refused), ("enter", Refused)):
            self.assertIn((kind, error), told)

    def step(self, desk, model, changes):
        many = changes.chance.randrange(4)
        kind = changes.chance.randrange(8)
        if kind == 0:
            return "undo", self.check_answer(model.undo(many), desk, lambda: desk.undo(many=many), ())
        if kind == 1:
            return "redo", self.check_answer(model.redo(many), desk, lambda: desk.redo(many=many), ())
        if kind == 2:
            return "trial", self.check_trial(desk, model, [changes.draw() for _ in range(many)])
        change = changes.draw()
        # Pins that are there are taken away, too.
        if change[0] == "unpin" and model.pins and changes.chance.randrange(4):
            change = ("unpin", changes.chance.choice(model.pins))
        return change[0], self.check_answer(getattr(model, change[0])(*change[1:]), desk, getattr(desk, change[0]), change[1:])

    def check_trial(self, desk, model, changes):
        twin, told = model.twin(), []
        before = repr_of(desk)
        for change in changes:
            error, answer = getattr(twin, change[0])(*change[1:])
            if error is not None:
                return self.check_answer((error, answer), desk, desk.trial, changes)
            told.append(answer)
        self.same(desk.trial(*changes), tuple(told))
        self.assertEqual(repr_of(desk), before)
        return "done"


def desk_of(**pools):
    made = Desk()
    for name, pool in pools.items():
        made.enter(name, pool)
    return made


class Grades(Checks):
    def test_grades(self):
        desk = Desk()
        self.same((desk.enter("line", LINE), desk.enter("stars", star_pool(3)), desk.enter("muted", muted_pool(3))),
                  ((("line", None, "never"),), (("stars", None, 1),), (("muted", None, 2),)))
        self.same((desk.enter("far", LATER), desk.enter("one", Pool((silent_web(1),)))), ((("far", None, "later"),), (("one", None, 0),)))
        self.same(desk.enter("three", Pool((chain_web(4, 2),))), (("three", None, 3),))
        self.same(desk.grades, {"far": "later", "line": "never", "muted": 2, "one": 0, "stars": 1, "three": 3})
        self.same(list(desk.grades), sorted(desk.grades))

    def test_grades_of_drawn_pools(self):
        told = set()
        for pool in drawn_pools(151, (2, 3, 4), (1, 2, 3, 4), 6):
            desk = desk_of(a=pool)
            told.add(desk.grades["a"])
            self.same(desk.grades["a"], slow_grade(rows_of(pool)))
        self.assertTrue({"never", 1, 2, 3} <= told, told)

    def test_news(self):
        desk = desk_of(a=LINE)
        self.same((desk.strike_web("a", 1), desk.add_web("a", LEFT), desk.enter("a", LINE), desk.add_web("a", silent_web(2))),
                  ((("a", "never", 1),), (("a", 1, "never"),), (), ()))
        self.same((desk.pools["a"].webs, desk.remove("a"), desk.pools), ((RIGHT, LEFT, BOTH, silent_web(2)), (("a", "never", None),), {}))
        desk = desk_of(b=star_pool(3), a=star_pool(3).part((0,)))
        self.same((desk.merge("c", "a", "b"), desk["c"].webs), ((("c", None, 1),), star_pool(3).webs))
        self.same((desk.merge("a", "b", "a"), desk["a"].webs), ((), star_pool(3).webs))


class Pins(Checks):
    def test_each_kind(self):
        desk = desk_of(line=LINE, able=LINE.part((0, 2)), muted=muted_pool(3), far=LATER)
        for pin in (("never", "line"), ("able", "able"), ("able", "far"), ("within", "able", 1), ("within", "muted", 2),
                    ("within", "muted", 3), ("part", "able", "line")):
            self.same(desk.pin(pin), ())
        self.same(len(desk.pins), 7)
        for pin in (("never", "able"), ("able", "line"), ("within", "able", 0), ("within", "muted", 1), ("within", "far", 3),
                    ("within", "line", 3), ("part", "line", "able"), ("part", "muted", "line"), ("never", "far")):
            self.same(self.refused(Refused, desk.pin, pin).claim, pin)
        self.same(len(desk.pins), 7)

    def test_the_first_pin_that_would_not_hold_is_told(self):
        desk = desk_of(a=LINE.part((0, 2)), b=LINE)
        for pin in (("part", "a", "b"), ("able", "a"), ("within", "a", 1)):
            desk.pin(pin)
        self.same(self.refused(Refused, desk.enter, "a", Pool((silent_web(2),))).claim, ("part", "a", "b"))
        self.same(self.refused(Refused, desk.add_web, "a", LEFT).claim, ("able", "a"))
        self.same(self.refused(Refused, desk.enter, "b", Pool((RIGHT,))).claim, ("part", "a", "b"))
        self.same(self.refused(Refused, desk.strike_web, "b", 0).claim, ("part", "a", "b"))
        self.same(self.refused(Refused, desk.merge, "a", "b", "a").claim, ("able", "a"))
        self.same(desk.strike_web("b", 1), (("b", "never", 1),))
        self.same(desk.unpin(("able", "a")), ())
        self.same(self.refused(Refused, desk.enter, "a", LINE).claim, ("part", "a", "b"))
        self.same(desk.unpin(("part", "a", "b")), ())
        self.same(self.refused(Refused, desk.add_web, "a", LEFT).claim, ("within", "a", 1))

    def test_pins_about_names_that_would_not_be_there(self):
        desk = desk_of(a=LINE, b=LINE)
        desk.pin(("part", "a", "b"))
        for name in ("a", "b"):
            self.refused(InvalidOperation, desk.remove, name)
        desk.unpin(("part", "a", "b"))
        desk.remove("a")
        self.refused(UnknownName, desk.remove, "a")

    def test_too_many_pins(self):
        desk = desk_of(a=Pool((RIGHT,)), b=LINE, c=LINE)
        pins = [("within", "a", 1), ("within", "a", 2), ("within", "a", 3), ("able", "a"), ("part", "a", "b"), ("never", "b"),
                ("part", "b", "c"), ("never", "c")]
        for pin in pins:
            desk.pin(pin)
        self.assertEqual(self.refused(TooMany, desk.pin, ("part", "a", "c")).limit, 8)
        # Ahead of it: pins that are there, and what is none; behind it: pins that do not hold.
        self.assertEqual(self.refused(TooMany, desk.pin, ("able", "b")).limit, 8)
        for pin in (pins[0], pins[7], ("able", "d"), ("part", "a", "a"), None):
            self.refused(InvalidOperation, desk.pin, pin)
        self.same(desk.pins, tuple(pins))
        desk.unpin(("able", "a"))
        self.same(desk.pins, tuple(pins[:3] + pins[4:]))
        self.same(self.refused(Refused, desk.pin, ("able", "b")).claim, ("able", "b"))
        self.same(desk.pin(("able", "a")), ())
        self.same(desk.pins[-1], ("able", "a"))

    def test_what_is_no_pin(self):
        desk = desk_of(a=LINE.part((0, 2)), b=LINE)
        pins = [("within", "a", 1), ("able", "a"), ("never", "b"), ("part", "a", "b")]
        wrong = [("within", "a"), ("within", "a", 4), ("within", "a", -1), ("within", "a", True), ("within", "a", "1"), ("within", 1, "a"),
                 ("within", "a", 1, 1), ("within", "c", 1), ("within", "a", None), ("within", "a", 10 ** 60), ("able",), ("able", "c"),
                 ("able", "a", "a"), ("able", "a", "b"),
                 ("never", "b", "a"), ("parts", "a", "b"), (1, "a", "b"), (None, "a", "b"), ("within", "a", "b"), ("able", "a", 1), ("never", "c"), ("never", "b", 0), ("part", "a", "a"), ("part", "a", "c"),
                 ("part", "c", "a"), ("part", "a"), ("part", "a", "b", "a"), ("part", "a", 1), ("Able", "a"), ("", "a"), (None, "a"),
                 ("able", ("a",)), ("able", ["a"]), ("part", "a", ["b"]), ["able", "a"], "able a", (), ("a",), ("a", "able"),
                 ("able", None), ("able", "A"), ("able", ""), ((), ()), (("able", "a"),), {"able": "a"}, ("within", ["a"], 1)]
        for value in wrong + odd_values():
            for call in (desk.pin, desk.unpin):
                self.refused(InvalidOperation, call, value)
        for pin in pins:
            self.refused(InvalidOperation, desk.unpin, pin)
            desk.pin(pin)
            self.refused(InvalidOperation, desk.pin, pin)
        for value in wrong:
            for call in (desk.pin, desk.unpin):
                self.refused(InvalidOperation, call, value)
        self.same(desk.pins, tuple(pins))


WRONG_NAMES = ["", "A", "aB", "a1", "a b", " a", "a ", "abcdefghi", "a-b", "a\n", "z" * 2000, "_", "{", "`", "a.b"]


class Refusals(Checks):
    def names(self):
        """Values that are no names."""
        return [value for value in WRONG_NAMES + odd_values() if value not in ("a", "web")]

    def test_wrong_arguments(self):
        desk = desk_of(x=LINE, y=LINE.part((0, 1)))
        names = (InvalidName, self.names())
        unknown = (UnknownName, self.names() + ["a", "web", "xx", "z"])
        before = repr_of(desk)
        for call, good, kinds in (
                (desk.enter, ("a", LINE), (names, (InvalidPool, wrong_pools()))), (desk.remove, ("x",), (unknown,)),
                (desk.add_web, ("x", silent_web(2)), (unknown, (InvalidWeb, wrong_webs(2)))),
                (desk.strike_web, ("x", 1), (unknown, (InvalidNumber, wrong_numbers(0, 2)))),
                (desk.merge, ("a", "x", "y"), (names, unknown, unknown))):
            self.check_refusals(call, good, kinds)
            self.assertEqual(repr_of(desk), before)
        for value in self.names() + ["a", "web"]:
            self.assertIs(self.refused(UnknownName, desk.remove, value).wanted, value)

    def test_names(self):
        for name in ("a", "z", "abcdefgh", "zzzzzzzz", "or", "enter"):
            self.same(desk_of(**{name: LINE}).grades, {name: "never"})
        desk = Desk()
        for name in WRONG_NAMES:
            self.refused(InvalidName, desk.enter, name, LINE)

    def test_too_many_names(self):
        desk = desk_of(**{name: LINE for name in "abcdefgh"})
        for call, given in ((desk.enter, ("i", LINE)), (desk.merge, ("i", "a", "b"))):
            self.assertEqual(self.refused(TooMany, call, *given).limit, 8)
        self.same(desk.enter("h", LINE.part((0,))), (("h", "never", 1),))
        desk.pin(("able", "h"))
        self.assertEqual(self.refused(TooMany, desk.enter, "i", LINE).limit, 8)
        self.refused(InvalidOperation, desk.remove, "h")
        self.same(desk.remove("a"), (("a", "never", None),))
        self.same(desk.enter("i", star_pool(2)), (("i", None, 1),))

    def test_too_many_webs(self):
        desk = desk_of(a=EIGHT, b=Pool((full_web(5),)))
        for call, given in ((desk.add_web, ("a", silent_web(5))), (desk.merge, ("a", "a", "b")), (desk.merge, ("c", "b", "a"))):
            self.assertEqual(self.refused(TooMany, call, *given).limit, 8)
        self.refused(InvalidOperation, desk.add_web, "a", EIGHT[3])
        self.refused(InvalidOperation, desk.strike_web, "b", 0)
        self.refused(InvalidPool, desk_of(a=LINE, b=star_pool(3)).merge, "a", "a", "b")

    def test_items(self):
        desk = desk_of(line=LINE)
        self.same(desk["line"], LINE)
        for value in odd_values() + WRONG_NAMES + ["lin", "LINE"]:
            self.assertIs(self.refused(UnknownName, lambda name: desk[name], value).wanted, value)
            self.assertIs(value in desk, False)
        self.assertIs("line" in desk, True)


class Histories(Checks):
    def test_undo_and_redo(self):
        desk = Desk()
        desk.enter("a", LINE)
        desk.strike_web("a", 1)
        desk.pin(("able", "a"))
        self.same((desk.undo(), desk.pins, desk.undo(many=2), len(desk)), ((), (), (("a", 1, None),), 0))
        self.same((desk.redo(), desk.redo(), desk.pins, desk.redo(), desk.pins),
                  ((("a", None, "never"),), (("a", "never", 1),), (), (), (("able", "a"),)))
        self.refused(NothingToUndo, desk.redo)
        self.same((desk.undo(many=3), desk.redo(many=3), desk.undo(many=0), desk.redo(many=0)), ((("a", 1, None),), (("a", None, 1),), (), ()))

    def test_redo_behind_another_change(self):
        desk = desk_of(a=LINE, b=LINE)
        desk.undo()
        desk.enter("c", LINE)
        self.refused(NothingToUndo, desk.redo)
        desk.undo()
        # What is refused or only tried is no change, and taking back nothing is none.
        for call in (lambda: desk.enter("A", LINE), lambda: desk.pin(("able", "a")), lambda: desk.undo(many=9)):
            with self.assertRaises((InvalidName, Refused, NothingToUndo)):
                call()
        desk.trial(("enter", "d", LINE))
        desk.undo(many=0)
        self.same((desk.redo(), list(desk)), ((("c", None, "never"),), ["a", "c"]))
        # A pin is a change, and so is one without news.
        desk.undo()
        desk.pin(("never", "a"))
        self.refused(NothingToUndo, desk.redo)
        desk.undo()
        desk.enter("a", LINE)
        self.refused(NothingToUndo, desk.redo)
        self.same((desk.undo(), desk.undo(), len(desk)), ((), (("a", "never", None),), 0))

    def test_news_of_several_steps(self):
        desk = desk_of(a=LINE)
        desk.strike_web("a", 0)
        desk.add_web("a", RIGHT)
        desk.enter("b", LINE)
        self.same((desk.undo(many=3), desk.redo(many=2), desk.redo(many=1)), ((("b", "never", None),), (), (("b", None, "never"),)))

    def test_wrong_numbers(self):
        desk = desk_of(a=LINE, b=LINE)
        desk.undo()
        before = repr_of(desk)
        for call in (desk.undo, desk.redo):
            for value in wrong_undos():
                self.refused_number(value, lambda many: call(many=many), value)
            for many in (2, 3, SIXTY_DIGITS):
                self.assertEqual(self.refused(NothingToUndo, lambda: call(many=many)).many, many)
            with self.assertRaises(TypeError):
                call(1)
        self.assertEqual(repr_of(desk), before)

    def test_twins_go_on_by_themselves(self):
        desk = desk_of(a=LINE, b=star_pool(3))
        desk.pin(("never", "a"))
        desk.undo()
        twin = desk.twin()
        self.assertIs(desk == twin, True)
        self.same((twin.redo(), twin.pins, desk.pins), ((), (("never", "a"),), ()))
        self.same((twin.undo(many=3), len(twin), len(desk)), ((("a", "never", None), ("b", 1, None)), 0, 2))
        desk.remove("b")
        self.refused(NothingToUndo, desk.redo)
        self.same((twin.redo(many=3), list(twin), list(desk)), ((("a", None, "never"), ("b", None, 1)), ["a", "b"], ["a"]))
        self.assertIs(desk != twin, True)


class Trials(Checks):
    def test_what_changes_would_return(self):
        desk = desk_of(a=LINE)
        before = repr_of(desk)
        told = desk.trial(("strike_web", "a", 1), ("pin", ("able", "a")), ("merge", "b", "a", "a"), ("unpin", ("able", "a")),
                          ("add_web", "a", LEFT), ("enter", "c", star_pool(3)), ("remove", "a"))
        self.same(told, ((("a", "never", 1),), (), (("b", None, 1),), (), (("a", 1, "never"),), (("c", None, 1),), (("a", "never", None),)))
        self.same((desk.trial(), repr_of(desk)), ((), before))

    def test_the_first_one_that_fails(self):
        desk = desk_of(a=LINE)
        before = repr_of(desk)
        self.same(self.refused(UnknownName, desk.trial, ("remove", "a"), ("remove", "a"), ("pin", None)).wanted, "a")
        self.same(self.refused(Refused, desk.trial, ("pin", ("never", "a")), ("strike_web", "a", 0)).claim, ("never", "a"))
        self.refused(InvalidName, desk.trial, ("enter", "A", LINE), ("remove", "b"))
        self.refused(InvalidPool, desk.trial, ("enter", "b", None))
        self.same(self.refused(TooMany, desk.trial, *[("enter", name, LINE) for name in "bcdefghi"]).limit, 8)
        self.refused_number(3, lambda index: desk.trial(("strike_web", "a", index)), 3)
        self.assertEqual(repr_of(desk), before)

    def test_what_is_no_change(self):
        desk = desk_of(a=LINE)
        wrong = [(), ("enter",), ("enter", "b"), ("enter", "b", LINE, LINE), ("remove",), ("remove", "a", "a"), ("undo",), ("redo", 1),
                 ("trial",), ("twin",), ("add_web", "a"), ("strike_web", "a", 1, 1), ("merge", "a", "a"), ("pin",), ("unpin",),
                 ("pin", "able", "a"), ["remove", "a"], "remove", None, (None, "a"), ("", "a"), (["remove"], "a"), ("Remove", "a"),
                 (("remove",), "a"), ("pools", "a"), ("__len__",), {"remove": "a"}, (True, "a")]
        for value in wrong + odd_values():
            self.refused(InvalidOperation, desk.trial, value)
            # It is told ahead of the errors of others.
            self.refused(InvalidOperation, desk.trial, ("remove", "b"), value)
            self.refused(InvalidOperation, desk.trial, ("remove", "a"), value, ("remove", "b"))


class DesksAsValues(Checks):
    def test_equal_by_pools_and_pins_in_order(self):
        one, other = desk_of(a=LINE, b=star_pool(3)), desk_of(b=star_pool(3), a=LINE)
        self.assertIs(one == other, True)
        self.assertIs(one != other, False)
        one.pin(("never", "a"))
        self.assertIs(one == other, False)
        other.pin(("able", "b"))
        other.pin(("never", "a"))
        one.pin(("able", "b"))
        self.assertIs(one == other, False)
        other.unpin(("able", "b"))
        other.pin(("able", "b"))
        self.assertIs(one == other, True)
        self.assertIs(desk_of(a=LINE) == desk_of(b=LINE), False)
        self.assertIs(desk_of(a=LINE) == desk_of(a=LINE.reordered((1, 0, 2))), False)

    def test_equal_accepts_every_value(self):
        desk = desk_of(a=LINE)
        for value in odd_values() + [{"a": LINE}, desk.pools, "a", ["a"], str(desk), LINE]:
            self.assertIs(desk == value, False)
            self.assertIs(value == desk, False)
            self.assertIs(desk != value, True)

    def test_iterating_yields_names_ascending(self):
        desk = desk_of(c=LINE, a=LINE, b=LINE)
        self.same((list(desk), tuple(desk), sorted(desk), list(desk.pools), list(desk.grades)), (list("abc"), tuple("abc"), list("abc"), list("abc"), list("abc")))
        self.same(list(Desk()), [])
        self.same((str(Desk()), len(Desk()), Desk().pools, Desk().grades, Desk().pins), ("desk of 0 pools, 0 pins", 0, {}, {}, ()))

    def test_nothing_is_shared(self):
        desk = desk_of(a=LINE)
        desk.pools.clear()
        desk.grades["a"] = 7
        desk.pools["b"] = LINE
        self.same((list(desk), desk.grades, desk["a"]), (["a"], {"a": "never"}, LINE))


if __name__ == "__main__":
    unittest.main()
