"""Points 5 to 8: names and rolls, groups and their names, their order, one within another."""

import unittest
from itertools import permutations, product

from plainly import FIGURES, comes_before, hands

from signright.errors import NoGroup, NoHand, NoRoll
from signright.hands import before, group_of, names_of, roll_of, within

SIX = ["ann", "bob", "cy", "dee", "eve", "fay"]
LETTERS = "abcdefghijklmnopqrstuvwxyz"


class HandsTest(unittest.TestCase):
    def refused(self, refusal, call, *handed):
        with self.assertRaises(refusal) as caught:
            call(*handed)
        self.assertIs(type(caught.exception), refusal)


class Rolls(HandsTest):
    def test_one_to_six_names_make_a_roll_in_their_order(self):
        for many in range(1, 7):
            roll = roll_of(SIX[:many])
            self.assertIs(type(roll), tuple)
            self.assertEqual(roll, tuple(SIX[:many]))
        self.assertEqual(roll_of(["z", "m", "a"]), ("z", "m", "a"))

    def test_no_name_and_seven_names_are_refused(self):
        self.refused(NoRoll, roll_of, [])
        self.refused(NoRoll, roll_of, SIX + ["gus"])
        self.refused(NoRoll, roll_of, [a + b for a in LETTERS for b in LETTERS][:200])

    def test_names_have_one_to_twenty_signs(self):
        for many in range(1, 21):
            self.assertEqual(roll_of(["q" * many]), ("q" * many,))
        for many in [0, 21, 22, 600]:
            self.refused(NoRoll, roll_of, ["q" * many])
        self.refused(NoRoll, roll_of, ["ann", ""])

    def test_names_have_signs_from_a_to_z_alone(self):
        for number in range(ord(" "), ord("~") + 1):
            sign = chr(number)
            for text in [sign, sign + "b", "b" + sign, "b" + sign + "b"]:
                with self.subTest(text=text):
                    if sign in LETTERS:
                        self.assertEqual(roll_of([text]), (text,))
                    else:
                        self.refused(NoRoll, roll_of, [text])

    def test_a_wrong_name_is_refused_in_each_place(self):
        for place in range(6):
            self.refused(NoRoll, roll_of, SIX[:place] + ["Ann"] + SIX[place + 1:])

    def test_the_words_of_rules_are_no_names(self):
        for word in ["all", "any", "of"]:
            self.refused(NoRoll, roll_of, [word])
            self.refused(NoRoll, roll_of, ["ann", word])

    def test_names_may_have_the_words_of_rules_within_them(self):
        names = ["alla", "ball", "anya", "off", "o", "al"]
        self.assertEqual(roll_of(names), tuple(names))

    def test_a_name_twice_is_refused(self):
        self.refused(NoRoll, roll_of, ["ann", "ann"])
        self.refused(NoRoll, roll_of, ["ann", "bob", "cy", "dee", "eve", "ann"])
        self.refused(NoRoll, roll_of, ["cy", "ann", "bob", "bob"])

    def test_a_name_that_begins_another_is_another(self):
        self.assertEqual(roll_of(["a", "aa", "aaa"]), ("a", "aa", "aaa"))

    def test_the_list_of_names_stays_and_may_be_changed_afterwards(self):
        names = list(SIX)
        roll = roll_of(names)
        self.assertEqual(names, SIX)
        names.clear()
        self.assertEqual(roll, tuple(SIX))


class Groups(HandsTest):
    def test_each_hand_has_its_number(self):
        roll = roll_of(SIX)
        for name, number in zip(SIX, [1, 2, 4, 8, 16, 32]):
            self.assertEqual(group_of(roll, [name]), number)
            self.assertEqual(names_of(roll, number), [name])

    def test_the_empty_group_and_the_group_of_all_hands(self):
        for many in range(1, 7):
            roll = roll_of(SIX[:many])
            self.assertEqual(group_of(roll, []), 0)
            self.assertEqual(names_of(roll, 0), [])
            self.assertEqual(group_of(roll, SIX[:many]), 2 ** many - 1)
            self.assertEqual(names_of(roll, 2 ** many - 1), SIX[:many])

    def test_each_group_of_each_roll_has_its_names(self):
        for many in range(1, 7):
            roll = roll_of(SIX[:many])
            for group in range(2 ** many):
                names = [SIX[hand] for hand in sorted(hands(group))]
                self.assertEqual(names_of(roll, group), names)
                self.assertEqual(group_of(roll, names), group)

    def test_numbers_go_by_the_roll_and_not_by_the_letters(self):
        roll = roll_of(["zoe", "moe", "abe"])
        self.assertEqual(group_of(roll, ["abe", "zoe"]), 5)
        self.assertEqual(names_of(roll, 6), ["moe", "abe"])

    def test_names_come_in_any_order_and_however_often(self):
        roll = roll_of(SIX)
        for names in permutations(["bob", "dee", "fay"]):
            self.assertEqual(group_of(roll, list(names)), 42)
            self.assertEqual(group_of(roll, list(names) + list(names)), 42)
        self.assertEqual(group_of(roll, ["bob"] * 200), 2)
        self.assertEqual(group_of(roll, ["bob", "ann", "bob"]), 3)

    def test_a_text_that_is_no_name_of_the_roll_is_refused(self):
        roll = roll_of(SIX[:3])
        for text in ["dee", "", "an", "annn", "Ann", "all", " ann", "a" * 600]:
            self.refused(NoHand, group_of, roll, [text])
            self.refused(NoHand, group_of, roll, ["ann", "bob", "cy", text])
            self.refused(NoHand, group_of, roll, [text, "ann"])

    def test_a_number_that_is_no_group_is_refused(self):
        for many in range(1, 7):
            roll = roll_of(SIX[:many])
            for number in [-1, 2 ** many, 2 ** many + 1, -(2 ** many), 64, -64, FIGURES, -FIGURES]:
                self.refused(NoGroup, names_of, roll, number)

    def test_the_list_of_names_stays_as_it_was(self):
        names = ["fay", "ann", "fay"]
        self.assertEqual(group_of(roll_of(SIX), names), 33)
        self.assertEqual(names, ["fay", "ann", "fay"])

    def test_told_names_are_the_askers_own(self):
        roll = roll_of(SIX)
        for group in range(64):
            told = names_of(roll, group)
            self.assertIs(type(told), list)
            kept = list(told)
            told.clear()
            self.assertEqual(names_of(roll, group), kept)
        self.assertEqual(roll, tuple(SIX))


class Order(HandsTest):
    def test_each_two_groups(self):
        for one, two in product(range(64), repeat=2):
            self.assertIs(before(one, two), comes_before(one, two), (one, two))

    def test_fewer_hands_come_first(self):
        self.assertIs(before(0, 1), True)
        self.assertIs(before(32, 3), True)
        self.assertIs(before(3, 32), False)
        self.assertIs(before(62, 63), True)

    def test_of_as_many_hands_the_first_unlike_one_tells(self):
        self.assertIs(before(1, 2), True)
        self.assertIs(before(2, 1), False)
        self.assertIs(before(33, 6), True)
        self.assertIs(before(6, 33), False)
        self.assertIs(before(49, 14), True)

    def test_no_group_comes_before_itself(self):
        for group in range(64):
            self.assertIs(before(group, group), False)


class Within(HandsTest):
    def test_each_two_groups(self):
        for one, two in product(range(64), repeat=2):
            self.assertIs(within(one, two), hands(one) <= hands(two), (one, two))

    def test_named_ones(self):
        self.assertIs(within(5, 7), True)
        self.assertIs(within(7, 5), False)
        self.assertIs(within(2, 5), False)
        self.assertIs(within(0, 0), True)
        self.assertIs(within(0, 63), True)
        self.assertIs(within(63, 0), False)


if __name__ == "__main__":
    unittest.main()
