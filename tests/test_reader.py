"""Point 16: texts that are read as rules, and where those that are none are refused."""

import unittest
from itertools import product

from plainly import (chain_shape, chosen_shapes, counting_shapes, is_longest_beginning, is_rule_text, shallow_shapes,
                     shape_depth, shape_size, shape_text)

from signright.errors import NoRule
from signright.hands import roll_of
from signright.reader import read
from signright.rules import All, Any, Hand, Rule, Some

SIX = roll_of(["ann", "bob", "cy", "dee", "eve", "fay"])
AB = roll_of(["a", "b"])
# Names of which one is another one's beginning, or that begin like all, any or of.
NESTED = roll_of(["a", "al", "alla", "anyone", "o", "off"])
PRINTED = [chr(number) for number in range(ord(" "), ord("~") + 1)]


def wide_shape(names):
    """A shape of sixty parts with eight at once: twenty that count and forty hands."""
    hand_shapes = [("hand", names[place % len(names)]) for place in range(40)]
    shape = counting_shapes(hand_shapes[:8])[2]
    for turn in range(19):
        taken = hand_shapes[8 + turn * 32 // 19:8 + (turn + 1) * 32 // 19]
        shape = counting_shapes([shape] + taken)[turn % 3]
    return shape


class ReaderTest(unittest.TestCase):
    def is_read(self, roll, shape):
        rule = read(roll, shape_text(shape))
        self.assertIsInstance(rule, Rule)
        self.assertEqual(rule.shape(), shape)
        self.assertEqual(rule.text(), shape_text(shape))

    def is_refused(self, roll, text, at):
        with self.assertRaises(NoRule) as caught:
            read(roll, text)
        self.assertIs(type(caught.exception), NoRule)
        self.assertIs(type(caught.exception.at), int)
        self.assertEqual(caught.exception.at, at, text)

    def goes_by_the_document(self, roll, text):
        try:
            self.assertEqual(read(roll, text).text(), text)
        except NoRule as refusal:
            self.assertFalse(is_rule_text(roll, text), text)
            self.assertTrue(is_longest_beginning(roll, text, refusal.at), (text, refusal.at))
        else:
            self.assertTrue(is_rule_text(roll, text), text)


class Read(ReaderTest):
    def test_named_ones(self):
        ann, bob = ("hand", "ann"), ("hand", "bob")
        self.assertEqual(read(SIX, "ann").shape(), ann)
        self.assertEqual(read(SIX, "all(ann, bob)").shape(), ("all", (ann, bob)))
        self.assertEqual(read(SIX, "any(bob, ann)").shape(), ("any", (bob, ann)))
        self.assertEqual(read(SIX, "2 of (ann, bob, ann)").shape(), ("some", 2, (ann, bob, ann)))
        self.assertEqual(read(SIX, "any(1 of (ann), all(bob, any(ann)))").shape(),
                         ("any", (("some", 1, (ann,)), ("all", (bob, ("any", (ann,)))))))

    def test_each_is_of_its_class(self):
        for text, wanted in [("ann", Hand), ("all(ann)", All), ("any(ann)", Any), ("1 of (ann)", Some)]:
            self.assertIs(type(read(SIX, text)), wanted)

    def test_what_is_read_lets_by_like_the_rule(self):
        rule = read(SIX, "any(all(ann, bob), 2 of (cy, dee, eve))")
        self.assertEqual(rule.ladder(SIX), [3, 12, 20, 24])
        self.assertIs(rule.lets(SIX, 3), True)
        self.assertIs(rule.lets(SIX, 37), False)

    def test_each_shape_of_up_to_three_hands(self):
        for shape in shallow_shapes(["ann", "bob", "cy"], 3):
            self.is_read(SIX, shape)

    def test_shapes_within_one_another(self):
        for shape in chosen_shapes(SIX, 300):
            self.is_read(SIX, shape)

    def test_each_number_from_one_to_the_count_of_parts(self):
        for count in range(1, 9):
            for shape in counting_shapes([("hand", SIX[place % 6]) for place in range(count)]):
                self.is_read(SIX, shape)

    def test_a_roll_of_one_name(self):
        for name in ["z", "q" * 20]:
            self.is_read((name,), ("hand", name))
            self.is_read((name,), ("some", 8, (("hand", name),) * 8))

    def test_names_of_which_one_is_anothers_beginning(self):
        for shape in shallow_shapes(NESTED, 2) + chosen_shapes(NESTED, 200):
            self.is_read(NESTED, shape)
        self.is_read(("aa", "a", "aaa"), ("any", (("hand", "aaa"), ("hand", "a"), ("hand", "aa"))))

    def test_names_in_whatever_order_of_the_roll(self):
        for roll in [("a", "ab", "abc"), ("abc", "ab", "a"), ("ab", "abc", "a")]:
            for name in roll:
                self.is_read(roll, ("hand", name))
                self.is_read(roll, ("all", (("hand", name), ("hand", "ab"))))

    def test_the_same_text_is_read_anew_each_time(self):
        self.assertIsNot(read(SIX, "all(ann)"), read(SIX, "all(ann)"))
        self.assertEqual(read(roll=SIX, text="ann").shape(), ("hand", "ann"))

    def test_a_refusal_changes_nothing_of_what_is_read_next(self):
        self.is_refused(SIX, "all(ann, bob", 12)
        self.is_read(SIX, ("all", (("hand", "cy"),)))


class Bounds(ReaderTest):
    """Point 3: what is all to be served."""

    def test_a_text_of_six_hundred_signs(self):
        # Names of ten and eleven signs, so that the text comes to six hundred.
        roll = roll_of(["k" * 10, "allanyoneof", "l" * 10, "m" * 10, "n" * 10])
        shape = wide_shape(roll)
        text = shape_text(shape)
        self.assertEqual((len(text), text.count("("), text.count(","), shape_size(shape)), (600, 20, 39, 60))
        self.is_read(roll, shape)
        self.is_refused(roll, text[:-1], 599)
        self.is_refused(roll, text[:-1] + "~", 599)

    def test_a_rule_within_twenty_others(self):
        shape = chain_shape(SIX, 20)
        self.assertEqual(shape_depth(shape), 20)
        self.is_read(SIX, shape)
        text = shape_text(shape)
        self.is_refused(SIX, text[:-1], len(text) - 1)
        self.is_refused(SIX, text + ")", len(text))

    def test_twenty_brackets_that_stay_open(self):
        for opening in ["all(", "any(", "1 of (", "8 of ("]:
            text = opening * 20
            self.is_refused(SIX, text, len(text))
            self.is_refused(SIX, text + ")", len(text))
            self.is_refused(SIX, text + "ann", len(text) + 3)

    def test_six_hundred_signs_that_are_no_rule(self):
        self.is_refused(SIX, " " * 600, 0)
        self.is_refused(SIX, "ann" * 200, 3)
        self.is_refused(("q" * 20,), "q" * 600, 20)
        self.is_refused(SIX, "all(ann)" + " " * 592, 8)


class Refused(ReaderTest):
    def test_what_the_document_names(self):
        self.is_refused(AB, "3 of (a, b)", 10)
        self.is_refused(AB, "9 of (a", 0)
        for opening in ["all(", "any(", "1 of (", "8 of ("]:
            eight = opening + "a, b, a, b, a, b, a, b"
            for tail in [", a)", ",", ", ", ",a)"]:
                self.is_refused(AB, eight + tail, len(eight))

    def test_a_ninth_part_within_others(self):
        ahead = "any(a, all(a, a, a, a, a, a, a, a"
        self.is_refused(AB, ahead + ", b), b)", len(ahead))
        self.assertEqual(read(AB, ahead + "), b)").text(), ahead + "), b)")

    def test_too_few_parts_for_the_number(self):
        for many in range(2, 9):
            for count in range(1, many):
                text = f"{many} of (" + ", ".join(["a"] * count)
                self.is_refused(AB, text + ")", len(text))
                self.is_refused(AB, "all(b, " + text + "), b)", len(text) + 7)
                self.is_refused(AB, text, len(text))

    def test_parts_within_a_part_count_for_that_one_alone(self):
        self.is_refused(AB, "3 of (all(a, b, a), b)", 21)
        self.is_refused(AB, "2 of (any(a, b))", 15)

    def test_a_text_that_ends_too_early(self):
        for shape in [("hand", "bob"), *counting_shapes([("hand", "ann"), ("hand", "bob")]),
                      ("any", (("all", (("hand", "cy"), ("hand", "dee"))), ("some", 1, (("hand", "eve"),))))]:
            text = shape_text(shape)
            for place in range(len(text)):
                self.is_refused(SIX, text[:place], place)

    def test_something_behind_a_whole_rule(self):
        for text in ["ann", "all(ann, bob)", "any(ann)", "2 of (ann, bob)"]:
            for sign in PRINTED:
                self.is_refused(SIX, text + sign, len(text))
            for behind in [", bob", " of (ann)", "(ann)", text, "))"]:
                self.is_refused(SIX, text + behind, len(text))

    def test_each_sign_in_the_first_place(self):
        begun = "abcdef" + "12345678"
        for sign in PRINTED:
            self.is_refused(SIX, sign, 1 if sign in begun else 0)
            self.is_refused(SIX, "all(" + sign, 5 if sign in begun else 4)
            self.is_refused(SIX, "all(cy, " + sign, 9 if sign in begun else 8)

    def test_numbers(self):
        for number in ["0", "9", "-1", "+1", "01"]:
            self.is_refused(AB, number + " of (a)", 0)
        self.is_refused(AB, "10 of (a)", 1)
        self.is_refused(AB, "1", 1)
        self.is_refused(AB, "1of (a)", 1)
        self.is_refused(AB, "1  of (a)", 2)
        self.is_refused(AB, "1 of(a)", 4)
        self.is_refused(AB, "1 of  (a)", 5)

    def test_blanks_and_commas(self):
        self.is_refused(AB, "", 0)
        self.is_refused(AB, " a", 0)
        self.is_refused(AB, "a ", 1)
        self.is_refused(AB, "all (a)", 3)
        self.is_refused(AB, "all( a)", 4)
        self.is_refused(AB, "all(a )", 5)
        self.is_refused(AB, "all(a,b)", 6)
        self.is_refused(AB, "all(a,  b)", 7)
        self.is_refused(AB, "all(a , b)", 5)
        self.is_refused(AB, "all(a b)", 5)
        self.is_refused(AB, "all(a,)", 6)
        self.is_refused(AB, "all(a, )", 7)
        self.is_refused(AB, "all(, a)", 4)

    def test_brackets(self):
        self.is_refused(AB, "all()", 4)
        self.is_refused(AB, "3 of ()", 6)
        self.is_refused(AB, "(a)", 0)
        self.is_refused(AB, "a(b)", 1)
        self.is_refused(AB, "all[a]", 3)
        self.is_refused(AB, "all((a))", 4)
        self.is_refused(AB, "all(a))", 6)
        self.is_refused(AB, "all(any(a)", 10)

    def test_words_of_rules_and_great_letters(self):
        for text, at in [("all", 3), ("any", 3), ("of", 0), ("All(a)", 0), ("ANY(a)", 0), ("aLl(a)", 1),
                         ("all of (a)", 3), ("any of (a)", 3), ("some(a)", 0), ("alla", 3), ("anya", 3)]:
            self.is_refused(AB, text, at)

    def test_names_that_are_none_of_the_rolls(self):
        self.is_refused(SIX, "zed", 0)
        self.is_refused(SIX, "anna", 3)
        self.is_refused(SIX, "bo", 2)
        self.is_refused(SIX, "boc", 2)
        self.is_refused(SIX, "all(ann, zed)", 9)
        self.is_refused(SIX, "all(ann, bobby)", 12)
        self.is_refused(SIX[:1], "bob", 0)

    def test_the_same_text_over_other_rolls(self):
        self.is_refused(("a",), "abc", 1)
        self.is_refused(("a", "abd"), "abc", 2)
        self.is_refused(("a", "abcd"), "abc", 3)
        self.assertEqual(read(("abc",), "abc").shape(), ("hand", "abc"))

    def test_names_of_which_one_is_anothers_beginning(self):
        for text, at in [("all", 3), ("alla", None), ("allan", 4), ("all)", 3), ("al(a)", 2), ("an", 2), ("any", 3),
                         ("anyo", 4), ("anyone", None), ("anyones", 6), ("anyo(", 4), ("any)", 3), ("of", 2),
                         ("of (a)", 2), ("offo", 3), ("o", None), ("oo", 1), ("all(o, of)", 9), ("all(alla(", 8),
                         ("any(anyon, a)", 9), ("2 of (al, all)", 13)]:
            if at is None:
                self.assertEqual(read(NESTED, text).shape(), ("hand", text))
            else:
                self.is_refused(NESTED, text, at)


class ByTheDocument(ReaderTest):
    """Texts of all sorts, beside what the document says of each beginning."""

    def test_each_short_text(self):
        for length in range(5):
            for signs in product("aln2 o(,)", repeat=length):
                self.goes_by_the_document(("a", "an"), "".join(signs))

    def test_each_short_text_behind_a_beginning(self):
        for ahead in ["all(a", "2 of (an", "any(all(a), a", "3 of (a, 2 of (a, an", "1 of (a, a, a, a, a, a, a"]:
            for length in range(4):
                for signs in product("an2(), ", repeat=length):
                    self.goes_by_the_document(("a", "an"), ahead + "".join(signs))

    def changed_texts(self, text):
        """The text with each one sign taken out, put in or put in another's place."""
        for place in range(len(text) + 1):
            yield text[:place] + text[place + 1:]
            for sign in "abln 29of(),~":
                yield text[:place] + sign + text[place:]
                yield text[:place] + sign + text[place + 1:]

    def test_texts_of_rules_with_one_sign_changed(self):
        for shape in chosen_shapes(NESTED, 24):
            if len(shape_text(shape)) <= 60:
                for text in self.changed_texts(shape_text(shape)):
                    self.goes_by_the_document(NESTED, text)

    def test_eight_and_nine_parts_with_one_sign_changed(self):
        for text in ["8 of (a, b, a, b, a, b, a, b)", "any(a, b, a, b, a, b, a, b, a)", "7 of (a, b, a, b, a, b, a)"]:
            for changed in self.changed_texts(text):
                self.goes_by_the_document(AB, changed)

    def test_each_beginning_of_a_large_text(self):
        text = shape_text(chain_shape(SIX, 20))
        for place in range(len(text)):
            self.is_refused(SIX, text[:place], place)
            self.is_refused(SIX, text[:place] + "~" + text[place:], place)


if __name__ == "__main__":
    unittest.main()
