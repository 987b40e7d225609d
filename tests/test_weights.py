"""Point 22: weights and a mark that tell a ladder, or a trade that shows that there are none."""

import unittest

from plainly import FIGURES, all_ladders, chosen_shapes, hands, in_order, lets_by, many_ladders, shape_text
from plainly import sized_ladders

from signright.hands import roll_of
from signright.ladders import stopping
from signright.reader import read
from signright.weights import weigh

SIX = roll_of(["ann", "bob", "cy", "dee", "eve", "fay"])
# Each with weights and a mark that tell it.
WEIGHED = [
    (2, [1], [1, 0], 1),
    (3, [3, 5], [2, 1, 1], 3),
    (3, [4, 3], [1, 1, 2], 2),
    (4, [1, 6, 10, 12], [2, 1, 1, 1], 2),
    (5, [3, 13, 21, 25, 30], [3, 2, 1, 1, 1], 5),
    (6, [31, 47], [2, 2, 2, 2, 1, 1], 9),
    (6, [32], [0, 0, 0, 0, 0, 1], 1),
]
# No weights tell these.
UNWEIGHED = [
    (4, [3, 12]),
    (4, [5, 10]),
    (4, [9, 6]),
    (5, [3, 12]),
    (6, [3, 12]),
    (6, [33, 18, 12]),
    (6, [3, 12, 48]),
    (6, [7, 56]),
    (6, [16, 35, 41, 14]),
    # The hands of the next three are in line.
    (6, [3, 5, 9, 30, 46, 54]),
    (6, [3, 5, 14, 22, 57, 58]),
    (6, [3, 5, 57, 30, 46, 54, 58]),
    # To find a trade of these by whole numbers alone, numbers have to be divided on the way.
    (6, [7, 35, 13, 41, 14, 26, 42, 53, 54, 60]),
    (6, [7, 19, 13, 25, 43, 53, 30, 46, 54, 58, 60]),
    (6, [7, 11, 19, 41, 42, 29, 53, 30, 60]),
    (6, [7, 11, 19, 41, 14, 26, 42, 29, 53, 54, 60]),
    (6, [7, 49, 50, 27, 43, 29, 45, 30, 46, 60]),
    (6, [7, 11, 25, 41, 28, 51, 53, 46, 58]),
    (6, [7, 19, 13, 25, 26, 43, 53, 46, 54]),
]


def weight_of(weights, group):
    return sum(weights[hand] for hand in hands(group))


def tells(count, ladder, weights, mark):
    """Whether the ladder lets by just the groups whose weights come to the mark."""
    return all(lets_by(ladder, group) == (weight_of(weights, group) >= mark) for group in range(2 ** count))


def standings(times, hand):
    """How often the hand stands in the groups."""
    return sum(many for group, many in times if hand in hands(group))


class WeightsTest(unittest.TestCase):
    def whole_numbers(self, numbers, fewest):
        for number in numbers:
            self.assertIs(type(number), int)
            self.assertTrue(fewest <= number <= FIGURES, number)

    def weights_hold(self, count, ladder, told):
        self.assertIs(type(told), tuple)
        weights, mark = told
        self.assertIs(type(weights), list)
        self.assertEqual(len(weights), count)
        self.whole_numbers(weights + [mark], 0)
        self.assertTrue(tells(count, ladder, weights, mark), (count, ladder, told))

    def times_hold(self, count, times):
        self.assertIs(type(times), list)
        for pair in times:
            self.assertIs(type(pair), tuple)
            self.assertEqual(len(pair), 2)
        groups = [group for group, many in times]
        self.whole_numbers(groups, 0)
        self.whole_numbers([many for group, many in times], 1)
        self.assertTrue(all(group < 2 ** count for group in groups))
        self.assertEqual(len(set(groups)), len(groups))

    def trade_holds(self, count, ladder, told):
        self.assertIs(type(told), tuple)
        ones, others = told
        self.times_hold(count, ones)
        self.times_hold(count, others)
        self.assertTrue(all(lets_by(ladder, group) for group, many in ones), (ladder, told))
        self.assertFalse(any(lets_by(ladder, group) for group, many in others), (ladder, told))
        self.assertEqual(sum(many for group, many in ones), sum(many for group, many in others))
        self.assertNotEqual(ones, [])
        for hand in range(count):
            self.assertLessEqual(standings(ones, hand), standings(others, hand), (ladder, told))

    def holds(self, count, ladder):
        """Holds where weigh tells what point 22 says; tells whether it told weights."""
        told = weigh(count, ladder)
        self.assertIs(type(told), tuple)
        self.assertEqual(len(told), 2)
        if told[0] is True:
            self.weights_hold(count, ladder, told[1])
        else:
            self.assertIs(told[0], False)
            self.trade_holds(count, ladder, told[1])
        return told[0]


class Named(WeightsTest):
    def test_the_empty_ladder_and_that_of_the_empty_group(self):
        for count in range(1, 7):
            for ladder in [[], [0]]:
                self.assertIs(self.holds(count, ladder), True)
            weights, mark = weigh(count, [])[1]
            self.assertGreater(mark, sum(weights))
            self.assertEqual(weigh(count, [0])[1][1], 0)

    def test_all_groups_of_a_size(self):
        for count in range(1, 7):
            for ladder in sized_ladders(count):
                self.assertIs(self.holds(count, ladder), True)

    def test_ladders_that_have_weights(self):
        for count, ladder, weights, mark in WEIGHED:
            self.assertTrue(tells(count, ladder, weights, mark), ladder)
            self.assertIs(self.holds(count, ladder), True)

    def test_ladders_that_have_none(self):
        for count, ladder in UNWEIGHED:
            self.assertIs(self.holds(count, ladder), False)

    def test_a_hand_of_no_group_may_weigh_nothing(self):
        for count in range(2, 7):
            self.assertIs(self.holds(count, [2]), True)
            self.assertIs(self.holds(count, [1, 2]), True)

    def test_a_hand_without_whom_nobody_may(self):
        for count in range(2, 7):
            ladder = [1 + 2 ** hand for hand in range(1, count)]
            self.assertIs(self.holds(count, ladder), True)
            weights, mark = weigh(count, ladder)[1]
            self.assertLess(sum(weights[1:]), mark)

    def test_ladders_made_of_weights(self):
        for weights in [[1, 2, 4, 8, 16, 32], [5, 4, 3, 2, 1, 1], [9, 8, 7, 5, 3, 1], [7, 7, 1, 1, 1, 0]]:
            for mark in range(sum(weights) + 2):
                let = [group for group in range(64) if weight_of(weights, group) >= mark]
                ladder = [group for group in let if not any(hands(one) < hands(group) for one in let)]
                self.assertIs(self.holds(6, in_order(ladder)), True)


class EachLadder(WeightsTest):
    def counted(self, count):
        """How many of all ladders of so many hands are told weights."""
        return sum(self.holds(count, ladder) for ladder in all_ladders(count))

    def test_one_to_four_hands(self):
        # So many rules can be told by weights, out of 3, 6, 20 and 168.
        self.assertEqual([self.counted(count) for count in range(1, 5)], [3, 6, 20, 150])

    def test_five_hands(self):
        # Out of 7581.
        self.assertEqual(self.counted(5), 3287)

    def test_five_and_six_hands_by_chance(self):
        told = [self.holds(count, ladder) for count, ladder in many_ladders()]
        self.assertEqual(set(told), {True, False})

    def test_the_stopping_ladder_has_weights_just_where_the_ladder_has(self):
        for count, ladder in many_ladders():
            self.assertEqual(weigh(count, stopping(count, ladder))[0], weigh(count, ladder)[0])

    def test_hands_of_no_group_change_nothing(self):
        for ladder in all_ladders(4):
            self.assertEqual({self.holds(count, ladder) for count in [4, 5, 6]}, {weigh(4, ladder)[0]})


class OfRules(WeightsTest):
    def test_rules_of_many_shapes(self):
        told = []
        for shape in chosen_shapes(SIX, 200):
            told.append(self.holds(6, read(SIX, shape_text(shape)).ladder(SIX)))
        self.assertEqual(set(told), {True, False})

    def test_named_rules(self):
        for text, wanted in [
            ("all(ann, 3 of (bob, cy, dee, eve, fay))", True),
            ("2 of (ann, ann, bob, cy)", True),
            ("any(all(ann, bob), all(cy, dee))", False),
            ("all(any(ann, bob), any(cy, dee), any(eve, fay))", False),
            ("fay", True),
        ]:
            self.assertIs(self.holds(6, read(SIX, text).ladder(SIX)), wanted)


class ListsOfTheAsker(WeightsTest):
    """Point 2: what is handed in stays, and what is told is the asker's own."""

    def asked(self):
        """Counts and ladders, with weights and without."""
        return [(1, []), (1, [0]), (3, [3, 5]), (6, [63]), (4, [3, 12]), (6, [3, 12, 48]), (6, [7, 56])]

    def test_the_ladder_stays_as_it_was(self):
        for count, ladder in many_ladders():
            kept = list(ladder)
            weigh(count, ladder)
            self.assertEqual(ladder, kept)

    def test_told_lists_that_are_emptied_change_nothing(self):
        for count, ladder in self.asked():
            kept = repr(weigh(count, ladder))
            for told in weigh(count, ladder)[1]:
                if isinstance(told, list):
                    told.clear()
            self.assertEqual(repr(weigh(count, ladder)), kept)

    def test_what_is_done_later_changes_nothing_told(self):
        for count, ladder in self.asked():
            told = weigh(count, ladder)
            kept = repr(told)
            ladder.clear()
            weigh(count, ladder)
            weigh(6, [3, 12, 48])
            weigh(6, [3, 5])
            self.assertEqual(repr(told), kept)

    def test_a_ladder_that_was_changed_is_weighed_anew(self):
        ladder = [3, 12]
        self.assertIs(self.holds(4, ladder), False)
        ladder.pop()
        self.assertIs(self.holds(4, ladder), True)


class Interface(WeightsTest):
    def test_the_arguments_have_their_names(self):
        self.weights_hold(3, [3, 5], weigh(count=3, ladder=[3, 5])[1])


if __name__ == "__main__":
    unittest.main()
