"""Points 14 to 17: rules, the groups that they let by, their shapes, texts and ladders."""

import unittest
from itertools import product

from plainly import (chain_shape, chosen_shapes, counting_shapes, hands, in_order, is_ladder, lets_by, parts_of,
                     shallow_shapes, shape_depth, shape_lets, shape_size, shape_text)

from signright.errors import NoHand
from signright.hands import roll_of
from signright.ladders import parted, stopping
from signright.rules import All, Any, Hand, Rule, Some

SIX = roll_of(["ann", "bob", "cy", "dee", "eve", "fay"])
THREE = SIX[:3]


def rule_of(shape):
    """The rule of a shape, made by the classes."""
    parts = [rule_of(part) for part in parts_of(shape)]
    if shape[0] == "hand":
        return Hand(shape[1])
    if shape[0] == "some":
        return Some(shape[1], parts)
    return All(parts) if shape[0] == "all" else Any(parts)


def names_within(roll, group):
    return {roll[hand] for hand in hands(group)}


def hands_named(*names):
    return [Hand(name) for name in names]


def full_shape():
    """A shape of sixty parts, with eight at once, whose innermost part lies within twenty others."""
    eights = [counting_shapes([("hand", SIX[(turn + place) % 6]) for place in range(8)])[turn + 3] for turn in range(2)]
    return ("some", 2, (chain_shape(SIX, 19), *eights, ("hand", "fay"), ("hand", "ann")))


SHAPES = shallow_shapes(THREE, 3) + chosen_shapes(SIX, 200) + [chain_shape(SIX, 20), full_shape()]


class RulesTest(unittest.TestCase):
    def refused(self, call, *handed):
        with self.assertRaises(NoHand) as caught:
            call(*handed)
        self.assertIs(type(caught.exception), NoHand)

    def refused_by_both(self, rule, roll):
        for group in range(2 ** len(roll)):
            self.refused(rule.lets, roll, group)
        self.refused(rule.ladder, roll)


class Lets(RulesTest):
    def test_a_hand_lets_by_the_groups_that_it_is_in(self):
        for many in range(1, 7):
            roll = SIX[:many]
            for place, name in enumerate(roll):
                for group in range(2 ** many):
                    self.assertIs(Hand(name).lets(roll, group), place in hands(group))

    def test_a_hand_goes_by_the_rolls_order(self):
        self.assertIs(Hand("zoe").lets(("zoe", "abe"), 1), True)
        self.assertIs(Hand("zoe").lets(("abe", "zoe"), 1), False)

    def test_all_any_and_some(self):
        parts = hands_named("ann", "bob", "cy")
        for group in range(64):
            counted = len(hands(group) & {0, 1, 2})
            self.assertIs(All(parts).lets(SIX, group), counted == 3)
            self.assertIs(Any(parts).lets(SIX, group), counted >= 1)
            for many in range(1, 4):
                self.assertIs(Some(many, parts).lets(SIX, group), counted >= many)

    def test_one_part(self):
        for rule in [All(hands_named("bob")), Any(hands_named("bob")), Some(1, hands_named("bob"))]:
            self.assertEqual([rule.lets(THREE, group) for group in range(8)], [False, False, True, True] * 2)

    def test_eight_parts(self):
        parts = hands_named(*SIX, "ann", "bob")
        for many in range(1, 9):
            for group in range(64):
                counted = len(hands(group)) + len(hands(group) & {0, 1})
                self.assertIs(Some(many, parts).lets(SIX, group), counted >= many)

    def test_a_hand_in_several_places_counts_in_each(self):
        rule = Some(2, hands_named("ann", "ann", "bob", "cy"))
        self.assertEqual([rule.lets(THREE, group) for group in range(8)],
                         [False, True, False, True, False, True, True, True])
        self.assertIs(Some(3, hands_named("ann", "ann", "bob")).lets(THREE, 1), False)

    def test_a_rule_in_several_places(self):
        pair = All(hands_named("ann", "bob"))
        rule = Some(2, [pair, pair, Hand("cy")])
        self.assertEqual([rule.lets(THREE, group) for group in range(8)], [group in [3, 7] for group in range(8)])

    def test_many_shapes_by_each_group(self):
        for shape in SHAPES:
            rule = rule_of(shape)
            for group in range(64):
                self.assertIs(rule.lets(SIX, group), shape_lets(shape, names_within(SIX, group)), (shape, group))

    def test_rolls_of_one_to_six_hands(self):
        for many in range(1, 7):
            roll = SIX[6 - many:]
            for shape in chosen_shapes(roll, 40):
                for group in range(2 ** many):
                    told = rule_of(shape).lets(roll, group)
                    self.assertIs(told, shape_lets(shape, names_within(roll, group)), (shape, group))


class Shapes(RulesTest):
    def test_named_ones(self):
        ann, bob = ("hand", "ann"), ("hand", "bob")
        parts = hands_named("ann", "bob")
        self.assertEqual(Hand("ann").shape(), ann)
        self.assertEqual(All(parts).shape(), ("all", (ann, bob)))
        self.assertEqual(Any(parts).shape(), ("any", (ann, bob)))
        self.assertEqual(Some(2, parts).shape(), ("some", 2, (ann, bob)))
        self.assertEqual(Any([All(parts), Hand("bob")]).shape(), ("any", (("all", (ann, bob)), bob)))

    def test_the_shape_is_a_tuple_throughout(self):
        def holds(shape):
            self.assertIs(type(shape), tuple)
            for part in parts_of(shape):
                holds(part)
            if shape[0] != "hand":
                self.assertIs(type(shape[-1]), tuple)
            if shape[0] == "some":
                self.assertIs(type(shape[1]), int)

        for shape in SHAPES:
            holds(rule_of(shape).shape())

    def test_each_rule_has_the_shape_that_it_was_made_by(self):
        for shape in SHAPES:
            self.assertEqual(rule_of(shape).shape(), shape)

    def test_rules_that_let_the_same_by_have_shapes_of_their_own(self):
        one = hands_named("ann")
        told = [rule.shape() for rule in [Hand("ann"), All(one), Any(one), Some(1, one), All([All(one)])]]
        self.assertEqual(len(set(told)), 5)


class Texts(RulesTest):
    def test_named_ones(self):
        parts = hands_named("ann", "bob", "cy")
        self.assertEqual(Hand("ann").text(), "ann")
        self.assertEqual(All(parts).text(), "all(ann, bob, cy)")
        self.assertEqual(Any(parts).text(), "any(ann, bob, cy)")
        self.assertEqual(Some(2, parts).text(), "2 of (ann, bob, cy)")
        self.assertEqual(Some(8, parts + parts + parts[:2]).text(), "8 of (ann, bob, cy, ann, bob, cy, ann, bob)")
        self.assertEqual(All(parts[:1]).text(), "all(ann)")
        self.assertEqual(Any([Some(1, parts[:1]), All([Hand("cy"), Any(parts[1:])])]).text(),
                         "any(1 of (ann), all(cy, any(bob, cy)))")

    def test_each_shape_has_its_text(self):
        for shape in SHAPES:
            self.assertEqual(rule_of(shape).text(), shape_text(shape))

    def test_a_told_text_may_have_more_than_six_hundred_signs(self):
        long = Any([All([Hand("q" * 20)] * 7)] * 7)
        inner = "all(" + ", ".join(["q" * 20] * 7) + ")"
        self.assertEqual(long.text(), "any(" + ", ".join([inner] * 7) + ")")
        self.assertGreater(len(long.text()), 600)


class Ladders(RulesTest):
    def test_named_ones(self):
        parts = hands_named("ann", "bob", "cy")
        self.assertEqual(Hand("cy").ladder(SIX), [4])
        self.assertEqual(All(parts).ladder(SIX), [7])
        self.assertEqual(Any(parts).ladder(SIX), [1, 2, 4])
        self.assertEqual(Some(2, parts).ladder(SIX), [3, 5, 6])
        self.assertEqual(Any([All(parts[:2]), Hand("fay")]).ladder(SIX), [32, 3])
        self.assertEqual(Any([All(parts[:2]), Hand("ann")]).ladder(SIX), [1])
        self.assertEqual(Hand("ann").ladder(("ann",)), [1])
        self.assertEqual(All(hands_named(*SIX)).ladder(SIX), [63])

    def test_a_hand_in_several_places(self):
        self.assertEqual(Some(2, hands_named("ann", "ann", "bob", "cy")).ladder(THREE), [1, 6])
        self.assertEqual(All(hands_named("ann", "ann")).ladder(THREE), [1])

    def test_a_rule_in_several_places(self):
        pair = All(hands_named("ann", "bob"))
        self.assertEqual(Some(2, [pair, pair, Hand("cy")]).ladder(THREE), [3])
        self.assertEqual(Some(3, [pair, pair, Hand("cy")]).ladder(THREE), [7])

    def test_each_lets_by_just_what_the_rule_lets_by(self):
        for shape in SHAPES:
            told = rule_of(shape).ladder(SIX)
            self.assertTrue(is_ladder(told), told)
            for group in range(64):
                self.assertIs(lets_by(told, group), shape_lets(shape, names_within(SIX, group)), (shape, group))

    def test_over_rolls_of_one_to_six_hands_they_have_their_groups_alone(self):
        for many in range(1, 7):
            roll = SIX[6 - many:]
            for shape in chosen_shapes(roll, 40):
                told = rule_of(shape).ladder(roll)
                self.assertTrue(is_ladder(told) and max(told) < 2 ** many, told)
                for group in range(2 ** many):
                    self.assertIs(lets_by(told, group), shape_lets(shape, names_within(roll, group)))


class Refusals(RulesTest):
    def test_a_hand_that_is_none_of_the_rolls(self):
        for name in ["dee", "an", "annn", "q" * 20]:
            self.refused_by_both(Hand(name), THREE)

    def test_whatever_the_other_parts_let_by(self):
        for name in THREE:
            for parts in [hands_named(name, "zed"), hands_named("zed", name)]:
                for rule in [All(parts), Any(parts), Some(1, parts), Some(2, parts)]:
                    self.refused_by_both(rule, THREE)

    def test_in_each_place_of_eight(self):
        for place in range(8):
            parts = hands_named(*["ann"] * 8)
            parts[place] = Hand("zed")
            for rule in [All(parts), Any(parts)] + [Some(many, parts) for many in range(1, 9)]:
                self.refused_by_both(rule, THREE)

    def test_far_within(self):
        for outer, inner in product([All, Any], repeat=2):
            rule = Hand("zed")
            for turn in range(10):
                rule = outer([Hand("ann"), inner([rule, Hand("bob")])])
            self.refused_by_both(rule, THREE)

    def test_another_roll_may_have_the_name(self):
        rule = Any(hands_named("ann", "dee"))
        self.refused_by_both(rule, THREE)
        self.assertEqual(rule.ladder(SIX), [1, 8])
        self.assertIs(rule.lets(SIX, 8), True)
        self.refused_by_both(rule, THREE)

    def test_shape_and_text_ask_for_no_roll(self):
        self.assertEqual(All(hands_named("zed")).shape(), ("all", (("hand", "zed"),)))
        self.assertEqual(All(hands_named("zed")).text(), "all(zed)")


class Bounds(RulesTest):
    """Point 3: what is all to be served."""

    def test_the_full_shape_is_as_large_as_the_bounds(self):
        self.assertEqual((shape_size(full_shape()), shape_depth(full_shape())), (60, 20))

    def test_a_rule_of_full_size(self):
        rule = rule_of(full_shape())
        self.assertEqual(rule.shape(), full_shape())
        self.assertEqual(rule.text(), shape_text(full_shape()))
        wanted = [group for group in range(64) if shape_lets(full_shape(), names_within(SIX, group))]
        self.assertEqual([group for group in range(64) if rule.lets(SIX, group)], wanted)
        self.assertEqual([group for group in range(64) if lets_by(rule.ladder(SIX), group)], wanted)

    def test_one_hand_alone_within_others(self):
        rule = Hand("fay")
        for turn in range(20):
            rule = [All, Any][turn % 2]([rule])
        self.assertEqual(rule.ladder(SIX), [32])
        self.assertIs(rule.lets(SIX, 31), False)
        self.assertIs(rule.lets(SIX, 32), True)
        self.refused_by_both(rule, THREE)


class TheWhole(RulesTest):
    """Point 4: the least groups, the least stopping groups, and where two rules part."""

    def test_each_group_holds_a_least_one_or_leaves_out_a_stopping_one(self):
        for shape in SHAPES:
            ladder = rule_of(shape).ladder(SIX)
            stops = stopping(6, ladder)
            for group in range(64):
                holds = any(hands(step) <= hands(group) for step in ladder)
                meets = all(hands(stop) & hands(group) for stop in stops)
                self.assertEqual(holds, shape_lets(shape, names_within(SIX, group)))
                self.assertEqual(holds, meets)

    def test_two_rules_let_the_same_by_just_where_their_ladders_are_equal(self):
        groups = in_order(range(8))
        asked = [([shape_lets(shape, names_within(THREE, group)) for group in groups], rule_of(shape).ladder(THREE))
                 for shape in shallow_shapes(THREE[:2], 2) + chosen_shapes(THREE, 60)]
        for (one, ladder), (two, second) in product(asked, repeat=2):
            unlike = [group for place, group in enumerate(groups) if one[place] != two[place]]
            self.assertEqual(ladder == second, not unlike)
            self.assertEqual(parted(3, ladder, second), unlike[0] if unlike else None)


class ListsOfTheAsker(RulesTest):
    """Point 2: what is handed in stays, what is done with it later changes nothing, what is told is the asker's."""

    def makers(self):
        return [All, Any, lambda parts: Some(1, parts), lambda parts: Some(2, parts), lambda parts: Some(3, parts)]

    def asked(self, rule):
        return rule.shape(), rule.text(), rule.ladder(SIX), [rule.lets(SIX, group) for group in range(64)]

    def test_the_parts_stay_as_they_were(self):
        for make in self.makers():
            parts = [Hand("cy"), All(hands_named("ann", "bob")), Hand("cy")]
            kept = list(parts)
            self.asked(make(parts))
            self.assertEqual(parts, kept)

    def test_what_is_done_with_the_parts_later_changes_nothing(self):
        for make in self.makers():
            for change in [lambda parts: parts.clear(), lambda parts: parts.append(Hand("zed")),
                           lambda parts: parts.reverse(), lambda parts: parts.insert(0, Hand("fay"))]:
                parts = [Hand("cy"), All(hands_named("ann", "bob")), Hand("dee")]
                wanted = self.asked(make(list(parts)))
                rule = make(parts)
                outer = Any([rule])
                wanted_outer = self.asked(outer)
                change(parts)
                self.assertEqual(self.asked(rule), wanted)
                self.assertEqual(self.asked(outer), wanted_outer)

    def test_one_list_for_several_rules(self):
        parts = hands_named("ann", "bob")
        first = All(parts)
        parts.append(Hand("cy"))
        second = All(parts)
        self.assertEqual((first.ladder(SIX), second.ladder(SIX)), ([3], [7]))
        self.assertEqual((first.text(), second.text()), ("all(ann, bob)", "all(ann, bob, cy)"))

    def test_told_ladders_that_are_emptied_change_nothing(self):
        inner = Hand("ann")
        rules = [inner, All([inner]), Any([inner]), Some(1, [inner]), Any([All([inner]), Hand("bob")])]
        for rule in rules:
            told = rule.ladder(SIX)
            self.assertIs(type(told), list)
            kept = list(told)
            told.clear()
            for again in rules:
                self.assertNotEqual(again.ladder(SIX), [])
            self.assertEqual(rule.ladder(SIX), kept)

    def test_asking_later_changes_nothing_told(self):
        rule = Some(2, hands_named("ann", "bob", "cy"))
        told = rule.ladder(THREE)
        rule.ladder(("cy", "ann", "bob", "dee"))
        self.refused_by_both(rule, SIX[:2])
        self.assertEqual(told, [3, 5, 6])
        self.assertIsNot(rule.ladder(THREE), told)


class Interface(RulesTest):
    def test_each_rule_stands_under_rule(self):
        for rule in [Hand("ann"), All(hands_named("ann")), Any(hands_named("ann")), Some(1, hands_named("ann"))]:
            self.assertIsInstance(rule, Rule)
        for method in ["shape", "text", "lets", "ladder"]:
            self.assertTrue(callable(getattr(Rule, method)))

    def test_the_arguments_have_their_names(self):
        parts = [Hand(name="ann")]
        for rule in [All(parts=parts), Any(parts=parts), Some(many=1, parts=parts)]:
            self.assertIs(rule.lets(roll=SIX, group=1), True)
            self.assertEqual(rule.ladder(roll=SIX), [1])


if __name__ == "__main__":
    unittest.main()
