"""Points 9 to 13: ladders and what they let by, the least ones, those made of others, two parted."""

import unittest
from itertools import combinations, product
from random import Random

from plainly import FIGURES, all_ladders, hands, in_order, is_ladder, lets_by, six_handed_ladders

from signright.ladders import both, either, least, lets, parted, some, stopping

LADDERS = [all_ladders(count) for count in range(5)]
SIX_HANDED = six_handed_ladders()


def some_lists():
    """Lists of groups in no order, some of them with groups twice; the same ones at each run."""
    chance = Random(7)
    return [[chance.randrange(64) for place in range(chance.randrange(12))] for turn in range(300)]


class LaddersTest(unittest.TestCase):
    def ladder_of(self, count, told, wanted):
        """Holds where told is the ladder that lets by just the groups of which wanted is true."""
        self.assertTrue(is_ladder(told), told)
        for group in range(2 ** count):
            self.assertEqual(lets_by(told, group), wanted(group), (told, group))


class Lets(LaddersTest):
    def test_the_empty_ladder_lets_none_by(self):
        for group in range(64):
            self.assertIs(lets([], group), False)

    def test_the_ladder_of_the_empty_group_lets_all_by(self):
        for group in range(64):
            self.assertIs(lets([0], group), True)

    def test_each_group_by_some_ladders(self):
        for ladder in LADDERS[4] + SIX_HANDED:
            for group in range(64):
                self.assertIs(lets(ladder, group), lets_by(ladder, group), (ladder, group))

    def test_a_group_of_the_ladder_in_whatever_place(self):
        ladder = [3, 12, 48]
        for group in [3, 12, 48, 7, 28, 63]:
            self.assertIs(lets(ladder, group), True)
        for group in [0, 1, 2, 21, 42]:
            self.assertIs(lets(ladder, group), False)


class Least(LaddersTest):
    def test_no_groups_and_the_empty_group(self):
        self.assertEqual(least([]), [])
        self.assertEqual(least([0]), [0])
        self.assertEqual(least([63, 5, 0, 1]), [0])

    def test_groups_in_any_order_and_twice(self):
        self.assertEqual(least([7, 3, 5, 3]), [3, 5])
        self.assertEqual(least([48, 12, 3, 12, 48, 15]), [3, 12, 48])
        self.assertEqual(least([6, 33]), [33, 6])
        self.assertEqual(least([3, 32]), [32, 3])
        self.assertEqual(least([9] * 200), [9])

    def test_a_ladder_is_its_own(self):
        for ladder in LADDERS[4] + SIX_HANDED:
            self.assertEqual(least(ladder), ladder)
            self.assertEqual(least(ladder[::-1] + ladder), ladder)

    def test_lists_in_no_order(self):
        for groups in some_lists():
            self.ladder_of(6, least(groups), lambda group: lets_by(groups, group))

    def test_two_hundred_groups(self):
        groups = [group for turn in range(4) for group in range(63, 13, -1)]
        self.ladder_of(6, least(groups), lambda group: lets_by(groups, group))


class EitherAndBoth(LaddersTest):
    def each_two(self):
        """Copies, so that a call that changed its lists would not make those of later calls grow."""
        for ladder, second in product(LADDERS[3], repeat=2):
            yield 3, list(ladder), list(second)
        for ladder, second in product(SIX_HANDED, repeat=2):
            yield 6, list(ladder), list(second)

    def test_either_of_each_two(self):
        for count, ladder, second in self.each_two():
            told = either(ladder, second)
            self.ladder_of(count, told, lambda group: lets_by(ladder, group) or lets_by(second, group))

    def test_both_of_each_two(self):
        for count, ladder, second in self.each_two():
            told = both(ladder, second)
            self.ladder_of(count, told, lambda group: lets_by(ladder, group) and lets_by(second, group))

    def test_with_the_empty_ladder_and_that_of_the_empty_group(self):
        for ladder in LADDERS[4]:
            self.assertEqual(either(ladder, []), ladder)
            self.assertEqual(either([], ladder), ladder)
            self.assertEqual(either(ladder, [0]), [0])
            self.assertEqual(both(ladder, []), [])
            self.assertEqual(both([0], ladder), ladder)
            self.assertEqual(both(ladder, ladder), ladder)

    def test_named_ones(self):
        self.assertEqual(either([3], [1, 12]), [1, 12])
        self.assertEqual(both([1, 2], [2, 4]), [2, 5])


class SomeOf(LaddersTest):
    def counted(self, ladders, group):
        return len([ladder for ladder in ladders if lets_by(ladder, group)])

    def holds(self, many, ladders):
        self.ladder_of(6, some(many, ladders), lambda group: self.counted(ladders, group) >= many)

    def test_none_and_fewer_let_every_group_by(self):
        for ladders in [[], [[]], [[1], [2]], [[], [63]], SIX_HANDED]:
            for many in [0, -1, -2, -FIGURES]:
                self.assertEqual(some(many, ladders), [0])

    def test_more_than_there_are_let_none_by(self):
        for ladders in [[], [[0]], [[1], [2]], [[0], [0], [0]], SIX_HANDED]:
            for many in [len(ladders) + 1, len(ladders) + 2, FIGURES]:
                self.assertEqual(some(many, ladders), [])

    def test_as_many_as_there_are(self):
        self.assertEqual(some(3, [[1], [2], [4]]), [7])
        self.assertEqual(some(1, [[3, 12]]), [3, 12])
        self.assertEqual(some(2, [[1, 2], [2, 4]]), [2, 5])

    def test_two_of_three_hands(self):
        self.assertEqual(some(2, [[1], [2], [4]]), [3, 5, 6])
        self.assertEqual(some(1, [[1], [2], [4]]), [1, 2, 4])

    def test_a_ladder_that_stands_twice_counts_twice(self):
        self.assertEqual(some(2, [[1], [1]]), [1])
        self.assertEqual(some(2, [[1], [1], [2], [4]]), [1, 6])
        self.assertEqual(some(3, [[1], [1], [2], [4]]), [3, 5])
        twice = [3, 12]
        self.assertEqual(some(2, [twice, twice]), [3, 12])

    def test_the_empty_ladder_and_that_of_the_empty_group_among_them(self):
        self.assertEqual(some(1, [[], [32]]), [32])
        self.assertEqual(some(2, [[], [32]]), [])
        self.assertEqual(some(2, [[0], [32]]), [32])
        self.assertEqual(some(1, [[0], [32]]), [0])

    def test_each_three_ladders_of_two_hands(self):
        for ladders in product(LADDERS[2], repeat=3):
            for many in range(-1, 5):
                self.holds(many, list(ladders))

    def test_ladders_of_six_hands(self):
        for start in range(len(SIX_HANDED) - 4):
            for many in range(6):
                self.holds(many, SIX_HANDED[start:start + 5])

    def test_two_hundred_ladders(self):
        ladders = (SIX_HANDED * 12)[:200]
        for many in [1, 60, 100, 199, 200]:
            self.holds(many, ladders)


class Stopping(LaddersTest):
    def meets_each(self, group, ladder):
        return all(hands(group) & hands(step) for step in ladder)

    def each_ladder(self):
        for count in range(1, 5):
            for ladder in LADDERS[count]:
                yield count, ladder
        for ladder in SIX_HANDED:
            yield 6, ladder

    def test_it_lets_by_just_those_that_meet_each_group(self):
        for count, ladder in self.each_ladder():
            told = stopping(count, ladder)
            self.ladder_of(count, told, lambda group: self.meets_each(group, ladder))
            self.assertTrue(all(group < 2 ** count for group in told))

    def test_the_empty_ladder_and_that_of_the_empty_group(self):
        for count in range(1, 7):
            self.assertEqual(stopping(count, []), [0])
            self.assertEqual(stopping(count, [0]), [])

    def test_the_stopping_ladders_stopping_ladder_is_the_ladder(self):
        for count, ladder in self.each_ladder():
            self.assertEqual(stopping(count, stopping(count, ladder)), ladder)

    def test_hands_of_no_group_change_nothing(self):
        for count in range(3, 7):
            self.assertEqual(stopping(count, [1, 6]), [3, 5])

    def test_named_ones(self):
        self.assertEqual(stopping(3, [3, 5, 6]), [3, 5, 6])
        self.assertEqual(stopping(6, [63]), [1, 2, 4, 8, 16, 32])
        self.assertEqual(stopping(6, [1, 2, 4, 8, 16, 32]), [63])
        self.assertEqual(stopping(1, [1]), [1])


class Parted(LaddersTest):
    def first(self, count, ladder, second):
        for group in in_order(range(2 ** count)):
            if lets_by(ladder, group) != lets_by(second, group):
                return group
        return None

    def test_each_two_ladders(self):
        for count in range(1, 4):
            for ladder, second in product(LADDERS[count], repeat=2):
                self.assertEqual(parted(count, ladder, second), self.first(count, ladder, second))
        for ladder, second in product(SIX_HANDED, repeat=2):
            self.assertEqual(parted(6, ladder, second), self.first(6, ladder, second))

    def test_equal_ladders_are_not_parted(self):
        for count in range(1, 5):
            for ladder in LADDERS[count]:
                self.assertIsNone(parted(count, ladder, list(ladder)))

    def test_unlike_ladders_are_parted_either_way_about(self):
        for ladder, second in combinations(LADDERS[4], 2):
            told = parted(4, ladder, second)
            self.assertIsNotNone(told)
            self.assertEqual(parted(4, second, ladder), told)

    def test_the_empty_group_may_part_them(self):
        told = parted(6, [], [0])
        self.assertEqual(told, 0)
        self.assertIsNotNone(told)
        self.assertEqual(parted(1, [0], [1]), 0)

    def test_the_first_one_goes_by_the_order_of_groups(self):
        self.assertEqual(parted(6, [33, 6], []), 33)
        self.assertEqual(parted(6, [32, 3], []), 32)
        self.assertEqual(parted(6, [1], [3]), 1)
        self.assertEqual(parted(6, [63], []), 63)


class ListsOfTheAsker(LaddersTest):
    """Point 2: what is handed in stays, and what is told is the asker's own."""

    def calls(self):
        """Each call with the lists that it is handed, made anew."""
        return [
            (lambda ladder, second: least(ladder + second), [48, 3, 7, 3], [12]),
            (lambda ladder, second: least(ladder), [3, 12], [0]),
            (lambda ladder, second: least(ladder), [12, 3, 15, 3], [0]),
            (either, [3, 12], [5, 48]),
            (either, [3, 12], []),
            (either, [], [3, 12]),
            (either, [3, 12], [3, 12]),
            (both, [3, 12], [5, 48]),
            (both, [0], [3, 12]),
            (both, [3, 12], [0]),
            (lambda ladder, second: some(1, [ladder, second]), [3, 12], []),
            (lambda ladder, second: some(1, [ladder]), [3, 12], [0]),
            (lambda ladder, second: some(2, [ladder, second]), [3, 12], [5, 48]),
            (lambda ladder, second: some(0, [ladder, second]), [3, 12], [0]),
            (lambda ladder, second: stopping(6, ladder), [3, 12], [0]),
            (lambda ladder, second: stopping(2, ladder), [3], [0]),
            (lambda ladder, second: stopping(2, ladder), [], [0]),
        ]

    def test_handed_in_lists_stay_as_they_were(self):
        for call, ladder, second in self.calls():
            kept = list(ladder), list(second)
            call(ladder, second)
            self.assertEqual((ladder, second), kept)

    def test_told_lists_that_are_emptied_change_nothing(self):
        for call, ladder, second in self.calls():
            kept = list(ladder), list(second)
            told = call(ladder, second)
            copy = list(told)
            told.clear()
            self.assertEqual((ladder, second), kept)
            self.assertEqual(call(ladder, second), copy)

    def test_handed_in_lists_that_are_emptied_change_nothing_told(self):
        for call, ladder, second in self.calls():
            told = call(ladder, second)
            copy = list(told)
            ladder.clear()
            second.clear()
            self.assertEqual(told, copy)

    def test_the_list_of_ladders_stays_as_it_was(self):
        ladders = [[3, 12], [], [0], [3, 12]]
        told = some(2, ladders)
        copy = list(told)
        self.assertEqual(ladders, [[3, 12], [], [0], [3, 12]])
        ladders.clear()
        self.assertEqual(told, copy)

    def test_asking_changes_no_ladder(self):
        ladder, second = [33, 6], [32, 3]
        lets(ladder, 63)
        parted(6, ladder, second)
        self.assertEqual((ladder, second), ([33, 6], [32, 3]))


if __name__ == "__main__":
    unittest.main()
