"""What the document promises over the whole program."""

import itertools
import random
import unittest

from rootshared.base.pools import Pool
from rootshared.base.webs import full_web, silent_web
from rootshared.desk.desk import Desk
from rootshared.errors import InvalidOperation, Refused, TooMany
from rootshared.groups.groups import (Sieve, agreement_paper, can_agree, closed_groups, common_roots, is_agreement_paper,
                                      is_obstacle, obstacle)
from rootshared.groups.links import links_in
from rootshared.make.makers import herald_program, made_program
from rootshared.make.steering import decisions_ahead, driven_fault, is_open_word, open_inputs, open_word
from rootshared.pools.families import (Gathering, agreeing_groups, greatest_agreeing, is_twin, least_failing, strikes,
                                       twin_numbers)
from rootshared.programs.checks import (configurations, found_fault, is_fault, is_right, is_right_paper, right_paper,
                                        slowest)
from rootshared.text.shell import Shell
from rootshared.text.texts import read_pool, read_program, write_pool, write_program
from rootshared.words.lots import agree_in, bar, is_bar, least_rounds
from tests.helpers import Checks, odd_values
from tests.slow import drawn_pools, known_pools, small_pools
from tests.slow_programs import inputs_of, programs_for, telling_program

MOST = 4


def pools():
    found = list(small_pools())[:12] + known_pools()
    found.extend(drawn_pools(181, (2, 3, 4), (1, 2, 3, 4), 4))
    found.extend(drawn_pools(182, (3,), (5, 6), 4))
    return found


def most_rounds(pool):
    """As many rounds as are looked at."""
    return max(rounds for rounds in range(MOST + 1) if len(pool) ** rounds <= 300)


class WhetherTheHousesCanAgree(Checks):
    def test_all_ways_tell_it_alike(self):
        told = {True: 0, False: 0}
        chance = random.Random(183)
        for pool in pools():
            able = can_agree(pool)
            told[able] += 1
            self.check_groups(pool, able)
            self.check_papers(pool, able)
            self.check_rounds(pool, able)
            self.check_programs(pool, able, chance)
            self.check_grades(pool, able)
        self.assertTrue(min(told.values()) > 20, told)

    def check_groups(self, pool, able):
        group = tuple(range(len(pool)))
        self.assertIs(all(common_roots(pool, part) != () for part in closed_groups(pool)), able)
        self.assertIs(group in agreeing_groups(pool), able)
        self.assertIs(greatest_agreeing(pool) == (group,), able)
        self.assertIs(least_failing(pool) == (), able)
        self.assertIs(Sieve(pool).verdict, able)
        if able:
            self.same(strikes(pool), ((),))
        gathering = Gathering(pool.size)
        for many, web in enumerate(pool.webs):
            if can_agree(pool.part(group[:many + 1])):
                self.same(gathering.put(web), closed_groups(pool.part(group[:many + 1])))
            else:
                self.refused(Refused, gathering.put, web)
                break
        self.assertIs(len(gathering) == len(pool), able)

    def check_papers(self, pool, able):
        if able:
            self.assertIs(is_agreement_paper(pool, agreement_paper(pool)), True)
            self.refused(InvalidOperation, obstacle, pool)
        else:
            self.assertIs(is_obstacle(pool, obstacle(pool)), True)
            self.refused(InvalidOperation, agreement_paper, pool)

    def check_rounds(self, pool, able):
        most = most_rounds(pool)
        least = least_rounds(pool, most=most)
        self.assertTrue(able or least is None)
        for rounds in range(most + 1):
            right = least is not None and rounds >= least
            self.assertIs(agree_in(pool, rounds), right)
            if not right:
                self.assertIs(is_bar(pool, bar(pool, rounds)), True)
                self.refused(InvalidOperation, made_program, pool, rounds)
                continue
            try:
                program = made_program(pool, rounds)
            except TooMany as error:
                self.assertIn(error.limit, (400, 4000))
                continue
            self.assertIs(is_right(program, pool), True)
            self.assertTrue(least <= slowest(program, pool) <= rounds)

    def check_programs(self, pool, able, chance):
        """With an obstacle each program has a fault by webs of the group."""
        for house in pool.always:
            self.assertIs(is_right(herald_program(pool, house), pool), able)
        for program in programs_for(pool, chance)[::3]:
            fault = found_fault(program, pool)
            self.assertIs(fault is None, is_right(program, pool))
            self.assertTrue(able or fault is not None)
            if not able:
                group = obstacle(pool)[0]
                driven = driven_fault(program, pool, group)
                self.assertIs(is_fault(program, pool, driven), True)
                self.assertTrue(set(itertools.chain(*driven[2:])) <= set(group))

    def check_grades(self, pool, able):
        desk = Desk()
        desk.enter("a", pool)
        grade = desk.grades["a"]
        self.assertIs(grade != "never", able)
        if len(pool) ** 3 <= 4096:
            least = least_rounds(pool)
            self.same(grade, "never" if not able else "later" if least is None else least)
        desk.pin(("able" if able else "never", "a"))
        self.refused(Refused, desk.pin, ("never" if able else "able", "a"))
        shell = Shell()
        shell(f"enter a {write_pool(pool)}")
        self.same((shell("grade a"), shell("obstacle a") == "none"), (str(grade), able))
        self.assertEqual(shell("groups a"), ", ".join(" ".join(map(str, group)) for group in closed_groups(pool)))


class OtherNumbers(Checks):
    """All of it goes along with other numbers of houses and another order of webs."""

    def test_it_goes_along(self):
        chance = random.Random(184)
        for pool in pools():
            numbers = chance.sample(range(pool.size), pool.size)
            order = chance.sample(range(len(pool)), len(pool))
            self.check_pool(pool, tuple(numbers), tuple(order))
            self.check_programs(pool, tuple(numbers), tuple(order), chance)

    def check_pool(self, pool, numbers, order):
        other = pool.renumbered(numbers).reordered(order)

        def group_of(group):
            return tuple(sorted(order.index(index) for index in group))

        def groups_of(groups):
            return tuple(sorted(group_of(group) for group in groups))

        self.assertIs(can_agree(other), can_agree(pool))
        for call in (closed_groups, agreeing_groups, greatest_agreeing, least_failing):
            self.same(call(other), groups_of(call(pool)))
        if agreeing_groups(pool):
            self.same(strikes(other), groups_of(strikes(pool)))
        else:
            self.refused(InvalidOperation, strikes, other)
        self.same(least_rounds(other, most=2), least_rounds(pool, most=2))
        self.assertIs(is_twin(pool, other, numbers), True)
        self.assertIs(is_twin(pool, other, twin_numbers(pool, other)), True)
        self.assertIs(is_twin(other, pool, twin_numbers(other, pool)), True)
        all_webs = tuple(range(len(pool)))
        links = [(*sorted((order.index(one), order.index(two))), order.index(third)) for one, two, third in links_in(pool, all_webs)]
        self.same(links_in(other, all_webs), tuple(sorted(links)))
        desk = Desk()
        desk.enter("a", pool)
        self.same(desk.enter("b", other), (("b", None, desk.grades["a"]),))

    def check_programs(self, pool, numbers, order, chance):
        other_pool = pool.renumbered(numbers).reordered(order)
        for program in programs_for(pool, chance)[::4]:
            other = program.renumbered(numbers)
            self.assertIs(is_right(other, other_pool), is_right(program, pool))
            for inputs in inputs_of(pool.size)[::3]:
                self.same(configurations(other, other_pool, placed(inputs, numbers)),
                          tuple(sorted(placed(row, numbers) for row in configurations(program, pool, inputs))))
            opened = [placed(inputs, numbers) for inputs in open_inputs(program, pool, tuple(range(len(pool))))]
            self.same(open_inputs(other, other_pool, tuple(range(len(pool)))), tuple(sorted(opened)))
            fault = found_fault(program, pool)
            if fault is None:
                paper = {placed(inputs, numbers): {placed(key, numbers): rank for key, rank in row.items()}
                         for inputs, row in right_paper(program, pool).items()}
                self.assertIs(is_right_paper(other, other_pool, paper), True)
                self.same(slowest(other, other_pool), slowest(program, pool))
            else:
                words = tuple(tuple(order.index(index) for index in webs) for webs in fault[2:])
                self.assertIs(is_fault(other, other_pool, (fault[0], placed(fault[1], numbers)) + words), True)

    def test_opposite_programs(self):
        chance = random.Random(185)
        for pool in pools()[::3]:
            group = tuple(range(len(pool)))
            for program in programs_for(pool, chance)[::4]:
                other = program.opposite()
                self.assertIs(is_right(other, pool), is_right(program, pool))
                for inputs in inputs_of(pool.size)[::3]:
                    opposite = tuple(1 - given for given in inputs)
                    ahead = decisions_ahead(program, pool, inputs, group, ())
                    self.same(decisions_ahead(other, pool, opposite, group, ()), tuple(sorted(1 - told for told in ahead)))


def placed(row, numbers):
    """The row with what stands at the place of house h at the place numbers[h]."""
    found = [None] * len(row)
    for house, number in enumerate(numbers):
        found[number] = row[house]
    return tuple(found)


class TextsOfAll(Checks):
    def test_what_is_read_does_what_was_written(self):
        chance = random.Random(186)
        for pool in pools()[::4]:
            again = read_pool(write_pool(pool))
            self.assertIs(again == pool, True)
            for program in programs_for(pool, chance)[::5]:
                copy = read_program(write_program(program))
                self.assertIs(copy == program, True)
                self.assertIs(is_right(copy, again), is_right(program, pool))

    def test_open_words_of_programs_with_an_obstacle(self):
        pool = Pool((silent_web(2), full_web(2)))
        program = telling_program(2, 0)
        # Web 0 has no root, so house 1 need not hear of it ever.
        self.assertEqual(driven_fault(program, pool, (0,))[0], "round")
        self.refused(InvalidOperation, open_word, program, pool, (0, 1), 3)
        self.assertIs(is_open_word(program, pool, (0, 1), ((0, 1), ())), False)


class Values(Checks):
    def test_objects_are_equal_to_nothing_else(self):
        made = odd_values()
        for one, other in itertools.product(made, made):
            self.assertIs(one != other, not (one == other))
            if one.__class__.__module__.startswith("rootshared") and one.__class__ is not other.__class__:
                self.assertIs(one == other, False)


if __name__ == "__main__":
    unittest.main()
