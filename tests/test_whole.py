"""Points 1 to 4: what is promised over the whole program, from the text of a rule to the paper."""

import unittest
from itertools import combinations

from plainly import all_ladders, chain_shape, chosen_shapes, hands, in_order, shape_lets, shape_text

from signright.book import Book
from signright.hands import roll_of
from signright.ladders import parted, stopping
from signright.reader import read
from signright.shares import swings, turns
from signright.standins import line
from signright.weights import weigh

SIX = ["ann", "bob", "cy", "dee", "eve", "fay"]


def rolls_and_shapes():
    """Rolls of one to six names, each with shapes of rules over it."""
    for count in range(1, 7):
        for shape in chosen_shapes(SIX[:count], 40) + [chain_shape(SIX[:count], 20)]:
            yield SIX[:count], shape


def let_groups(names, shape):
    """The groups that the rule of the shape lets by, in order."""
    return [group for group in in_order(range(2 ** len(names))) if shape_lets(shape, named(names, group))]


def named(names, group):
    return {names[hand] for hand in hands(group)}


class Whole(unittest.TestCase):
    def test_least_groups_and_stopping_groups_of_each_rule(self):
        for names, shape in rolls_and_shapes():
            let = let_groups(names, shape)
            ladder = read(roll_of(names), shape_text(shape)).ladder(roll_of(names))
            self.assertEqual(ladder, [group for group in let if not any(hands(one) < hands(group) for one in let)])
            stops = stopping(len(names), ladder)
            for group in range(2 ** len(names)):
                holds = any(hands(step) <= hands(group) for step in ladder)
                leaves = any(not hands(step) & hands(group) for step in stops)
                self.assertEqual((holds, leaves), (group in let, group not in let))

    def test_two_rules_are_the_same_where_their_least_groups_are(self):
        names = SIX[:4]
        shapes = chosen_shapes(names, 40)
        ladders = [read(roll_of(names), shape_text(shape)).ladder(roll_of(names)) for shape in shapes]
        for one, two in combinations(range(len(shapes)), 2):
            unlike = set(let_groups(names, shapes[one])) ^ set(let_groups(names, shapes[two]))
            self.assertEqual(ladders[one] == ladders[two], not unlike)
            wanted = in_order(unlike)[0] if unlike else None
            self.assertEqual(parted(4, ladders[one], ladders[two]), wanted)

    def test_weights_or_a_trade_of_each_rule(self):
        for names, shape in rolls_and_shapes():
            let = let_groups(names, shape)
            can, told = weigh(len(names), read(roll_of(names), shape_text(shape)).ladder(roll_of(names)))
            if can:
                weights, mark = told
                for group in range(2 ** len(names)):
                    self.assertEqual(sum(weights[hand] for hand in hands(group)) >= mark, group in let)
            else:
                ones, others = [[group for group, many in times for turn in range(many)] for times in told]
                self.assertEqual(len(ones), len(others))
                self.assertTrue(set(ones) <= set(let) and not set(others) & set(let))
                for hand in range(len(names)):
                    stands = [[group for group in side if hand in hands(group)] for side in (ones, others)]
                    self.assertLessEqual(len(stands[0]), len(stands[1]))

    def test_hands_of_an_earlier_lot_weigh_more_by_counting(self):
        for names, shape in rolls_and_shapes():
            ladder = read(roll_of(names), shape_text(shape)).ladder(roll_of(names))
            in_line, lots = line(len(names), ladder)
            for counted in [turns(len(names), ladder), swings(len(names), ladder)]:
                if in_line:
                    lots_counted = [{counted[hand] for hand in lot} for lot in lots]
                    self.assertTrue(all(len(lot) == 1 for lot in lots_counted))
                    self.assertEqual(lots_counted, [{number} for number in sorted(set(counted), reverse=True)])

    def test_a_book_goes_by_the_rule_of_the_day(self):
        for names, shape in rolls_and_shapes():
            book = Book(names)
            book.rule(3, shape_text(shape))
            let = let_groups(names, shape)
            least = [group for group in let if not any(hands(one) < hands(group) for one in let)]
            self.assertEqual(book.least(4), [[names[hand] for hand in sorted(hands(group))] for group in least])
            for group in range(2 ** len(names)):
                self.assertIs(book.may(4, sorted(named(names, group))), group in let)

    def test_asked_again_all_is_told_the_same(self):
        for count in range(1, 4):
            for ladder in all_ladders(count):
                for ask in [line, weigh, turns, swings, stopping]:
                    self.assertEqual(ask(count, ladder), ask(count, list(ladder)))


if __name__ == "__main__":
    unittest.main()
