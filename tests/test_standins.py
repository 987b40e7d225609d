"""Points 20 and 21: who stands in for whom, and the hands in line."""

import unittest
from itertools import combinations, permutations

from plainly import all_ladders, chosen_shapes, hands, in_order, lets_by, many_ladders, shape_text, sized_ladders

from signright.hands import roll_of
from signright.ladders import stopping
from signright.reader import read
from signright.standins import line, stands_in

SIX = roll_of(["ann", "bob", "cy", "dee", "eve", "fay"])
# Neither hand 0 or 1 stands in for hand 2 or 3, nor the other way about.
APART = [3, 12]
# In line, though no weights tell them.
LINED = [
    ([3, 5, 9, 30, 46, 54], [[0], [1, 2], [3], [4, 5]]),
    ([3, 5, 14, 22, 57, 58], [[0], [1], [2], [3, 4], [5]]),
    ([3, 5, 57, 30, 46, 54, 58], [[0], [1], [2], [3, 4, 5]]),
]


def walked_stand_in(count, ladder, i, j):
    """What is told of i for j, by walking through each group."""
    for group in in_order(range(2 ** count)):
        if j in hands(group) and i not in hands(group) and lets_by(ladder, group):
            if not lets_by(ladder, sum(2 ** hand for hand in hands(group) - {j} | {i})):
                return False, group
    return True, None


class StandInsTest(unittest.TestCase):
    def lots_hold(self, count, walked, lots):
        """Holds where lots are all that point 21 says of them, by what was walked of each two hands."""
        self.assertIs(type(lots), list)
        for lot in lots:
            self.assertIs(type(lot), list)
            self.assertNotEqual(lot, [])
            self.assertEqual(lot, sorted(lot))
        self.assertEqual(sorted(hand for lot in lots for hand in lot), list(range(count)))
        place = {hand: number for number, lot in enumerate(lots) for hand in lot}
        for i, j in permutations(range(count), 2):
            self.assertIs(walked[i, j][0], place[i] <= place[j], (lots, i, j))

    def line_holds(self, count, ladder):
        """Holds where line tells what point 21 says; tells whether the hands are in line."""
        walked = {(i, j): walked_stand_in(count, ladder, i, j) for i, j in permutations(range(count), 2)}
        told = line(count, ladder)
        self.assertIs(type(told), tuple)
        self.assertEqual(len(told), 2)
        in_line = all(walked[i, j][0] or walked[j, i][0] for i, j in combinations(range(count), 2))
        self.assertIs(told[0], in_line, (count, ladder))
        if in_line:
            self.lots_hold(count, walked, told[1])
        else:
            self.assertIs(type(told[1]), tuple)
            i, j, one, two = told[1]
            self.assertLess(i, j)
            self.assertEqual((walked[i, j], walked[j, i]), ((False, one), (False, two)))
        return in_line


class StandsIn(StandInsTest):
    def is_told(self, told, wanted):
        self.assertIs(type(told), tuple)
        self.assertEqual(told, wanted)
        self.assertIs(told[0], wanted[0])
        self.assertIs(type(told[1]), type(wanted[1]))

    def test_each_two_hands_of_each_ladder_both_ways_about(self):
        for count, ladder in many_ladders():
            for i, j in permutations(range(count), 2):
                self.is_told(stands_in(count, ladder, i, j), walked_stand_in(count, ladder, i, j))

    def test_the_empty_ladder_and_that_of_the_empty_group(self):
        for count in range(2, 7):
            for i, j in permutations(range(count), 2):
                self.is_told(stands_in(count, [], i, j), (True, None))
                self.is_told(stands_in(count, [0], i, j), (True, None))

    def test_all_groups_of_a_size(self):
        for count in range(2, 7):
            for ladder in sized_ladders(count):
                for i, j in permutations(range(count), 2):
                    self.is_told(stands_in(count, ladder, i, j), (True, None))

    def test_one_stands_in_for_the_other_but_not_the_other_way_about(self):
        self.is_told(stands_in(2, [1], 0, 1), (True, None))
        self.is_told(stands_in(2, [1], 1, 0), (False, 1))
        self.is_told(stands_in(3, [3, 5], 0, 2), (True, None))
        self.is_told(stands_in(3, [3, 5], 2, 0), (False, 3))
        self.is_told(stands_in(6, [32, 3], 5, 0), (True, None))
        self.is_told(stands_in(6, [32, 3], 0, 5), (False, 32))

    def test_each_for_the_other(self):
        self.is_told(stands_in(3, [3, 5], 1, 2), (True, None))
        self.is_told(stands_in(3, [3, 5], 2, 1), (True, None))
        self.is_told(stands_in(3, [1], 1, 2), (True, None))
        self.is_told(stands_in(4, APART, 0, 1), (True, None))

    def test_neither_for_the_other(self):
        self.is_told(stands_in(4, APART, 0, 2), (False, 12))
        self.is_told(stands_in(4, APART, 2, 0), (False, 3))
        self.is_told(stands_in(6, [3, 12, 48], 1, 4), (False, 48))
        self.is_told(stands_in(6, [3, 12, 48], 4, 1), (False, 3))

    def test_the_first_group_goes_by_the_order_of_groups(self):
        self.is_told(stands_in(6, [33, 7], 3, 0), (False, 33))
        self.is_told(stands_in(6, [25, 22], 5, 4), (False, 25))
        self.is_told(stands_in(6, [22, 41], 3, 1), (False, 22))

    def test_a_group_with_both_hands_shows_nothing(self):
        self.is_told(stands_in(3, [3], 0, 1), (True, None))
        self.is_told(stands_in(3, [3], 1, 0), (True, None))
        self.is_told(stands_in(3, [5, 6], 0, 1), (True, None))

    def test_a_hand_of_no_group(self):
        self.is_told(stands_in(3, [3], 2, 0), (False, 3))
        self.is_told(stands_in(3, [3], 0, 2), (True, None))

    def test_the_hands_stand_in_just_so_by_the_stopping_ladder(self):
        for count, ladder in many_ladders():
            for i, j in permutations(range(count), 2):
                other = stands_in(count, stopping(count, ladder), i, j)
                self.assertEqual(other[0], stands_in(count, ladder, i, j)[0])


class Line(StandInsTest):
    def test_each_ladder(self):
        told = [self.line_holds(count, ladder) for count, ladder in many_ladders()]
        self.assertEqual(set(told), {True, False})

    def test_some_ladders_of_five_hands(self):
        for ladder in all_ladders(5)[::25]:
            self.line_holds(5, ladder)

    def test_one_hand(self):
        for ladder in [[], [0], [1]]:
            self.assertEqual(line(1, ladder), (True, [[0]]))

    def test_the_empty_ladder_and_that_of_the_empty_group(self):
        for count in range(1, 7):
            self.assertEqual(line(count, []), (True, [list(range(count))]))
            self.assertEqual(line(count, [0]), (True, [list(range(count))]))

    def test_all_groups_of_a_size(self):
        for count in range(1, 7):
            for ladder in sized_ladders(count):
                self.assertEqual(line(count, ladder), (True, [list(range(count))]))

    def test_lots_of_some_ladders(self):
        self.assertEqual(line(3, [1]), (True, [[0], [1, 2]]))
        self.assertEqual(line(3, [3, 5]), (True, [[0], [1, 2]]))
        self.assertEqual(line(3, [4, 3]), (True, [[2], [0, 1]]))
        self.assertEqual(line(6, [32, 20]), (True, [[5], [2, 4], [0, 1, 3]]))
        self.assertEqual(line(4, [1, 6, 10]), (True, [[0], [1], [2, 3]]))

    def test_lots_where_no_weights_tell_the_ladder(self):
        for ladder, lots in LINED:
            self.assertEqual(line(6, ladder), (True, lots))

    def test_hands_that_are_not_in_line(self):
        told = line(4, APART)
        self.assertIn(told, [(False, (i, j, 12, 3)) for i in [0, 1] for j in [2, 3]])
        for ladder in [[3, 12, 48], [33, 18, 12], [7, 56]]:
            self.assertIs(self.line_holds(6, ladder), False)

    def test_some_hands_in_line_and_others_not(self):
        wanted = [(1, 2, 20, 10), (1, 4, 20, 10), (2, 3, 10, 20), (3, 4, 20, 10)]
        for count in [5, 6]:
            told = line(count, [1, 10, 20])
            self.assertIs(told[0], False)
            self.assertIn(told[1], wanted)

    def test_rules_of_many_shapes(self):
        for shape in chosen_shapes(SIX, 60):
            self.line_holds(6, read(SIX, shape_text(shape)).ladder(SIX))


class ListsOfTheAsker(StandInsTest):
    """Point 2: what is handed in stays, and what is told is the asker's own."""

    def test_the_ladder_stays_as_it_was(self):
        for count, ladder in many_ladders():
            kept = list(ladder)
            line(count, ladder)
            if count > 1:
                stands_in(count, ladder, 0, count - 1)
            self.assertEqual(ladder, kept)

    def test_told_lots_that_are_emptied_change_nothing(self):
        for count, ladder in [(1, []), (3, [0]), (3, [3, 5]), (6, [63]), (6, LINED[0][0])]:
            told = line(count, ladder)[1]
            kept = [list(lot) for lot in told]
            for lot in told:
                lot.clear()
            told.clear()
            self.assertEqual(line(count, ladder), (True, kept))

    def test_what_is_done_later_changes_nothing_told(self):
        ladder = [3, 5]
        told = line(3, ladder)
        ladder.clear()
        line(3, ladder)
        line(4, APART)
        self.assertEqual(told, (True, [[0], [1, 2]]))

    def test_a_ladder_that_was_changed_is_asked_anew(self):
        ladder = [3, 5]
        self.assertEqual(stands_in(3, ladder, 2, 0), (False, 3))
        ladder.append(6)
        self.assertEqual(stands_in(3, ladder, 2, 0), (True, None))
        self.assertEqual(line(3, ladder), (True, [[0, 1, 2]]))


class Interface(StandInsTest):
    def test_the_arguments_have_their_names(self):
        self.assertEqual(stands_in(count=2, ladder=[1], i=1, j=0), (False, 1))
        self.assertEqual(line(count=2, ladder=[1]), (True, [[0], [1]]))


if __name__ == "__main__":
    unittest.main()
