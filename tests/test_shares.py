"""Points 18 and 19: turns and swings."""

import unittest
from itertools import permutations
from math import factorial

from plainly import all_ladders, chosen_shapes, lets_by, shape_text, six_handed_ladders

from signright.hands import roll_of
from signright.ladders import stopping
from signright.reader import read
from signright.rules import Hand, Some
from signright.shares import swings, turns

SIX = roll_of(["ann", "bob", "cy", "dee", "eve", "fay"])


def each_ladder():
    """Ladders of one to six hands, each with a count of hands."""
    for count in range(1, 5):
        for ladder in all_ladders(count):
            yield count, ladder
    for ladder in six_handed_ladders():
        yield 6, ladder
        if max(ladder, default=0) < 32:
            yield 5, ladder


def walked_turns(count, ladder):
    """The turns, by walking through each order of the hands."""
    told = [0] * count
    for order in permutations(range(count)):
        group = 0
        for hand in order:
            ahead, group = group, group + 2 ** hand
            told[hand] += not lets_by(ladder, ahead) and lets_by(ladder, group)
    return told


def walked_swings(count, ladder):
    """The swings, by walking through each group of the other hands."""
    told = [0] * count
    for hand in range(count):
        for group in range(2 ** count):
            if not group // 2 ** hand % 2:
                told[hand] += not lets_by(ladder, group) and lets_by(ladder, group + 2 ** hand)
    return told


class SharesTest(unittest.TestCase):
    def both_are(self, count, ladder, wanted_turns, wanted_swings):
        self.assertEqual(turns(count, ladder), wanted_turns)
        self.assertEqual(swings(count, ladder), wanted_swings)


class Named(SharesTest):
    def test_the_empty_ladder_and_that_of_the_empty_group(self):
        for count in range(1, 7):
            self.both_are(count, [], [0] * count, [0] * count)
            self.both_are(count, [0], [0] * count, [0] * count)

    def test_one_hand(self):
        self.both_are(1, [1], [1], [1])

    def test_two_hands(self):
        self.both_are(2, [1], [2, 0], [2, 0])
        self.both_are(2, [2], [0, 2], [0, 2])
        self.both_are(2, [3], [1, 1], [1, 1])
        self.both_are(2, [1, 2], [1, 1], [1, 1])

    def test_three_hands(self):
        self.both_are(3, [3, 5, 6], [2, 2, 2], [2, 2, 2])
        self.both_are(3, [3, 5], [4, 1, 1], [3, 1, 1])
        self.both_are(3, [4, 3], [1, 1, 4], [1, 1, 3])

    def test_six_hands(self):
        self.both_are(6, [63], [120] * 6, [1] * 6)
        self.both_are(6, [1, 2, 4, 8, 16, 32], [120] * 6, [1] * 6)
        self.both_are(6, [1], [720, 0, 0, 0, 0, 0], [32, 0, 0, 0, 0, 0])
        self.both_are(6, [32], [0, 0, 0, 0, 0, 720], [0, 0, 0, 0, 0, 32])

    def test_a_hand_of_no_group_has_none(self):
        self.both_are(3, [3], [3, 3, 0], [2, 2, 0])
        self.both_are(4, [6], [0, 12, 12, 0], [0, 4, 4, 0])


class EachLadder(SharesTest):
    def test_turns_go_by_each_order(self):
        for count, ladder in each_ladder():
            self.assertEqual(turns(count, ladder), walked_turns(count, ladder), (count, ladder))

    def test_swings_go_by_each_group(self):
        for count, ladder in each_ladder():
            self.assertEqual(swings(count, ladder), walked_swings(count, ladder), (count, ladder))

    def test_each_order_is_some_hands_turn(self):
        for count, ladder in each_ladder():
            self.assertEqual(sum(turns(count, ladder)), 0 if ladder in [[], [0]] else factorial(count))

    def test_the_stopping_ladder_has_the_same(self):
        for count, ladder in each_ladder():
            self.both_are(count, stopping(count, ladder), turns(count, ladder), swings(count, ladder))

    def test_they_are_lists_of_whole_numbers(self):
        for count, ladder in [(1, []), (1, [0]), (1, [1]), (3, [3, 5]), (6, [63])]:
            for told in [turns(count, ladder), swings(count, ladder)]:
                self.assertIs(type(told), list)
                self.assertEqual({type(number) for number in told}, {int})
                self.assertEqual(len(told), count)


class OfRules(SharesTest):
    def test_a_rule_of_six_hands(self):
        ladder = read(SIX, "all(ann, 3 of (bob, cy, dee, eve, fay))").ladder(SIX)
        self.both_are(6, ladder, [360, 72, 72, 72, 72, 72], [16, 6, 6, 6, 6, 6])

    def test_a_hand_in_several_places(self):
        ladder = Some(2, [Hand("ann"), Hand("ann"), Hand("bob"), Hand("cy")]).ladder(SIX[:3])
        self.both_are(3, ladder, [4, 1, 1], [3, 1, 1])

    def test_rules_of_many_shapes(self):
        for shape in chosen_shapes(SIX[:5], 40):
            ladder = read(SIX[:5], shape_text(shape)).ladder(SIX[:5])
            self.both_are(5, ladder, walked_turns(5, ladder), walked_swings(5, ladder))


class ListsOfTheAsker(SharesTest):
    """Point 2: what is handed in stays, and what is told is the asker's own."""

    def test_the_ladder_stays_as_it_was(self):
        for count, ladder in each_ladder():
            kept = list(ladder)
            turns(count, ladder)
            swings(count, ladder)
            self.assertEqual(ladder, kept)

    def test_told_lists_that_are_emptied_change_nothing(self):
        for ask in [turns, swings]:
            for count, ladder in [(1, [1]), (3, [3, 5]), (3, []), (3, [0]), (6, [63])]:
                told = ask(count, ladder)
                kept = list(told)
                told.clear()
                self.assertEqual(ask(count, ladder), kept)

    def test_what_is_done_later_changes_nothing_told(self):
        for ask in [turns, swings]:
            ladder = [3, 5]
            told = ask(3, ladder)
            kept = list(told)
            ladder.clear()
            ask(3, ladder)
            ask(4, [15])
            self.assertEqual(told, kept)

    def test_a_ladder_that_was_changed_is_counted_anew(self):
        ladder = [3, 5]
        self.both_are(3, ladder, [4, 1, 1], [3, 1, 1])
        ladder.append(6)
        self.both_are(3, ladder, [2, 2, 2], [2, 2, 2])


if __name__ == "__main__":
    unittest.main()
