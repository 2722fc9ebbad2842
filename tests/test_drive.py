"""The drive of stage 12: rounds with what is ahead."""

import random
import unittest

from rootshared.base.pools import Pool, star_pool
from rootshared.base.webs import silent_web
from rootshared.errors import (InvalidGroup, InvalidInputs, InvalidNumber, InvalidPool, InvalidProgram, NothingToUndo)
from rootshared.make.makers import made_program
from rootshared.make.steering import Drive
from rootshared.programs.runs import Run
from tests.helpers import (LINE, SIXTY_DIGITS, TELL, Checks, odd_values, repr_of, wrong_groups, wrong_inputs, wrong_numbers,
                           wrong_pools_for, wrong_programs, wrong_undos)
from tests.slow import groups_of, rows_of, slow_trail
from tests.slow_programs import Walk, cases, chasing_program, own_program, silent_program, telling_program

CHASE = chasing_program()


class Driving(Checks):
    def check_state(self, drive, program, pool, group, inputs, word):
        walk = Walk(program, rows_of(pool), inputs, group)
        end = slow_trail(program, rows_of(pool), inputs, word)[-1]
        ahead = walk.ahead(end)
        self.same((drive.group, drive.inputs, drive.word, drive.ahead), (group, inputs, word, ahead))
        choices = tuple(index for index, later in zip(group, walk.later[end]) if walk.ahead(later) == (0, 1))
        self.same(drive.choices, choices)
        self.assertIs(bool(drive), ahead == (0, 1))
        self.same(len(drive), len(word))
        told = {(): "nothing", (0,): "0", (1,): "1", (0, 1): "0 1"}[ahead]
        self.same(str(drive), f"drive: {len(word)} rounds, ahead {told}")

    def test_many_rounds_and_some_taken_back(self):
        chance = random.Random(121)
        for program, pool in list(cases(31))[::7]:
            group = chance.choice(groups_of(len(pool)))
            inputs = tuple(chance.randrange(2) for _ in range(program.size))
            drive, word = Drive(program, pool, group, inputs), ()
            self.check_state(drive, program, pool, group, inputs, word)
            for _ in range(12):
                word = self.change(drive, program, pool, group, word, chance)
                self.check_state(drive, program, pool, group, inputs, word)

    def change(self, drive, program, pool, group, word, chance):
        """The word of the drive behind a change."""
        kind, many = chance.randrange(5), chance.randrange(len(word) + 1)
        if kind == 0:
            self.same(drive.undo(many=many), word[len(word) - many:][::-1])
            return word[:len(word) - many]
        if kind == 1:
            return word + self.check_keep(drive, program, pool, group, word, many)
        index = chance.choice(group)
        walk = Walk(program, rows_of(pool), drive.inputs, group)
        wanted = walk.ahead(slow_trail(program, rows_of(pool), drive.inputs, word + (index,))[-1])
        self.same(drive.go(index), wanted)
        return word + (index,)

    def check_keep(self, drive, program, pool, group, word, most):
        """The webs of the rounds that were kept."""
        walk = Walk(program, rows_of(pool), drive.inputs, group)
        present, came = slow_trail(program, rows_of(pool), drive.inputs, word)[-1], ()
        while len(came) < most:
            fit = [at for at, later in enumerate(walk.later[present]) if walk.ahead(later) == (0, 1)]
            if not fit:
                break
            came, present = came + (group[fit[0]],), walk.later[present][fit[0]]
        self.same(drive.keep(most=most), len(came))
        self.same(drive.word, word + came)
        return came

    def test_by_hand(self):
        drive = Drive(CHASE, LINE, (0, 1, 2), (0, 1))
        self.same((drive.ahead, drive.choices, bool(drive), str(drive)), ((0, 1), (0,), True, "drive: 0 rounds, ahead 0 1"))
        self.same((drive.go(0), drive.choices, drive.go(1), drive.word), ((0, 1), (1,), (0, 1), (0, 1)))
        self.same((drive.go(1), str(drive), drive.choices), ((1,), "drive: 3 rounds, ahead 1", ()))
        self.same((drive.keep(), len(drive), bool(drive)), (0, 3, False))
        self.same((drive.undo(many=2), drive.word, drive.ahead), ((1, 1), (0,), (0, 1)))
        self.same((drive.keep(), len(drive)), (10, 11))
        self.same((drive.keep(most=0), drive.keep(most=200), len(drive), drive.ahead), (0, 200, 211, (0, 1)))
        self.same((drive.word[:5], drive.undo(many=209), drive.word), ((0, 1, 0, 1, 0), ((0, 1) * 105)[:209], (0, 1)))

    def test_nothing_and_all_ahead(self):
        silent = Drive(silent_program(2), LINE, (1, 2), (0, 1))
        self.same((silent.ahead, silent.choices, bool(silent), str(silent)), ((), (), False, "drive: 0 rounds, ahead nothing"))
        self.same((silent.go(2), silent.keep(), str(silent)), ((), 0, "drive: 1 rounds, ahead nothing"))
        own = Drive(own_program(2), LINE, (2,), (0, 1))
        self.same((own.ahead, own.choices, own.keep(most=7), own.word), ((0, 1), (2,), 7, (2,) * 7))
        made = Drive(made_program(star_pool(3), 1), star_pool(3), (0, 1, 2), (0, 1, 1))
        self.same((made.ahead, made.choices, made.go(2), str(made)), ((0, 1), (), (1,), "drive: 1 rounds, ahead 1"))

    def test_groups_have_other_indices_than_places(self):
        drive = Drive(TELL, LINE, (1, 2), (1, 0))
        self.same((drive.go(2), drive.go(1), drive.word, drive.group), ((1,), (1,), (2, 1), (1, 2)))
        self.refused_number(0, drive.go, 0)
        self.same(drive.undo(many=2), (1, 2))


class Refusals(Checks):
    def test_making(self):
        for program, pool in ((TELL, LINE), (telling_program(3, 1), star_pool(3))):
            size = program.size
            kinds = ((InvalidProgram, wrong_programs()), (InvalidPool, wrong_pools_for(size)),
                     (InvalidGroup, wrong_groups(pool)), (InvalidInputs, wrong_inputs(size)))
            self.check_refusals(Drive, (program, pool, (0, 2), (0,) * size), kinds)

    def test_go_and_keep(self):
        drive = Drive(CHASE, LINE, (0, 2), (0, 1))
        drive.go(0)
        before = repr_of(drive)
        for value in wrong_numbers(0, 2) + [1]:
            self.refused_number(value, drive.go, value)
        for value in wrong_numbers(0, 200) + [201, -1, True, None]:
            self.refused_number(value, lambda most: drive.keep(most=most), value)
        self.assertEqual(repr_of(drive), before)
        for call in (drive.keep, drive.undo):
            with self.assertRaises(TypeError):
                call(0)

    def test_undo(self):
        drive = Drive(CHASE, LINE, (0, 1), (0, 1))
        drive.keep(most=2)
        for many in (3, 4, SIXTY_DIGITS):
            self.assertEqual(self.refused(NothingToUndo, lambda: drive.undo(many=many)).many, many)
        for value in wrong_undos():
            self.refused_number(value, lambda many: drive.undo(many=many), value)
        self.same((drive.word, drive.ahead), ((0, 1), (0, 1)))
        self.same((drive.undo(many=0), drive.undo(), drive.undo()), ((), (1,), (0,)))
        self.assertEqual(self.refused(NothingToUndo, drive.undo).many, 1)
        self.same(drive.undo(many=0), ())


class DrivesAsValues(Checks):
    def test_twins_go_on_by_themselves(self):
        drive = Drive(CHASE, LINE, (0, 1, 2), (0, 1))
        drive.go(0)
        twin = drive.twin()
        self.assertIs(drive == twin, True)
        self.same((twin.word, twin.ahead, twin.choices, twin.group, twin.inputs), ((0,), (0, 1), (1,), (0, 1, 2), (0, 1)))
        twin.go(0)
        self.same((drive.word, twin.word, drive.ahead, twin.ahead), ((0,), (0, 0), (0, 1), (0,)))
        self.assertIs(drive == twin, False)
        self.same((twin.undo(many=2), drive.word), ((0, 0), (0,)))
        drive.keep(most=5)
        self.same((twin.word, len(drive)), ((), 6))
        self.refused(NothingToUndo, twin.undo)

    def test_equal_by_programs_pools_groups_inputs_and_words(self):
        one = Drive(CHASE, LINE, (0, 1), (0, 1))
        self.assertIs(one == Drive(chasing_program(), Pool(LINE.webs), (0, 1), (0, 1)), True)
        others = [Drive(CHASE.opposite(), LINE, (0, 1), (0, 1)), Drive(CHASE, LINE.part((0, 1)), (0, 1), (0, 1)),
                  Drive(CHASE, LINE, (0, 2), (0, 1)), Drive(CHASE, LINE, (0, 1, 2), (0, 1)), Drive(CHASE, LINE, (0, 1), (1, 1)),
                  Drive(CHASE, LINE.reordered((1, 0, 2)), (0, 1), (0, 1))]
        for other in others:
            self.assertIs(one == other, False)
            self.assertIs(one != other, True)
        other = one.twin()
        other.go(0)
        self.assertIs(one == other, False)
        one.go(0)
        self.assertIs(one == other, True)
        self.assertIs(one != other, False)

    def test_equal_accepts_every_value(self):
        drive = Drive(TELL, LINE, (0, 2), (0, 1))
        for value in odd_values() + [LINE, TELL, Run(TELL, LINE, (0, 1)), (0, 1), str(drive), 0, True]:
            if not isinstance(value, Drive):
                self.assertIs(drive == value, False)
                self.assertIs(value == drive, False)
                self.assertIs(drive != value, True)

    def test_no_iteration(self):
        for call in (iter, list, tuple, sorted):
            with self.assertRaises(TypeError):
                call(Drive(TELL, LINE, (0,), (0, 0)))

    def test_one_house(self):
        drive = Drive(own_program(1), Pool((silent_web(1),)), (0,), (1,))
        self.same((drive.ahead, drive.choices, drive.go(0), drive.keep()), ((1,), (), (1,), 0))


if __name__ == "__main__":
    unittest.main()
