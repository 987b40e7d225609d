"""Points 23 to 27: the book, its entries, days and refusals, and who may sign on a day."""

import unittest
from itertools import combinations, permutations
from random import Random

from plainbook import PlainBook
from plainly import FIGURES, chosen_shape, shape_text

from signright.book import Book
from signright.errors import NoDay, NoDeputy, NoEntry, NoHand, NoRoll, NoRule, Unruled

SIX = ["ann", "bob", "cy", "dee", "eve", "fay"]
NO_NAMES = ["zed", "", "Ann", "an", "annn", "ann ", "all", "any", "of", "~", "q" * 600]


def book_of(names, text):
    """A book with the rule of the text from day 0 on, which is entry 0."""
    book = Book(names)
    book.rule(0, text)
    return book


def all_lists(names):
    """Each choice of the names, as a list."""
    return [list(chosen) for size in range(len(names) + 1) for chosen in combinations(names, size)]


class BookTest(unittest.TestCase):
    def refused(self, refusal, call, *handed):
        with self.assertRaises(refusal) as caught:
            call(*handed)
        self.assertIs(type(caught.exception), refusal)
        return caught.exception

    def may_just(self, book, roll, day, least):
        """Holds where just those of the roll may sign on the day who hold one of the least groups."""
        self.assertEqual(book.least(day), least)
        for names in all_lists(roll):
            wanted = any(set(group) <= set(names) for group in least)
            self.assertIs(book.may(day, names), wanted, (day, names))
            self.assertIs(book.paper(day, names)[0], wanted, (day, names))


class Making(BookTest):
    def test_one_to_six_names(self):
        for many in range(1, 7):
            book = book_of(SIX[:many], "any(" + ", ".join(SIX[:many]) + ")")
            self.may_just(book, SIX[:many], 0, [[name] for name in SIX[:many]])

    def test_the_roll_has_the_order_of_the_names(self):
        book = book_of(["cy", "ann", "bob"], "2 of (ann, bob, cy)")
        self.assertEqual(book.least(0), [["cy", "ann"], ["cy", "bob"], ["ann", "bob"]])

    def test_what_makes_no_roll_is_refused(self):
        for names in [[], SIX + ["gus"], ["ann", "ann"], ["ann", "bob", "ann"], ["Ann"], [""], ["all"], ["ann", "any"],
                      ["of"], ["q" * 21], ["a b"], ["ann1"]]:
            self.refused(NoRoll, Book, names)

    def test_each_book_has_its_own_entries(self):
        one, two = Book(["ann"]), Book(["ann"])
        self.assertEqual(one.rule(0, "ann"), 0)
        self.refused(Unruled, two.least, 0)
        self.refused(NoEntry, two.strike, 0)
        self.assertEqual(two.away("ann", 0, 1), 0)
        self.assertIs(one.may(0, ["ann"]), True)


class Numbers(BookTest):
    def test_entries_of_each_kind_are_numbered_from_0_as_they_come(self):
        book = Book(SIX)
        told = [
            book.rule(0, "ann"),
            book.away("ann", 3, 4),
            book.deputy("bob", "ann", 3, 4),
            book.rule(0, "ann"),
            book.away("ann", 3, 4),
            book.deputy("bob", "ann", 3, 4),
            book.rule(FIGURES, "ann"),
        ]
        self.assertEqual(told, list(range(7)))
        for number in told:
            self.assertIs(type(number), int)

    def test_two_hundred_entries(self):
        book = Book(SIX)
        for turn in range(50):
            self.assertEqual(book.rule(turn, SIX[turn % 6]), 4 * turn)
            self.assertEqual(book.away("ann", turn, turn), 4 * turn + 1)
            self.assertEqual(book.deputy("bob", "ann", turn, turn), 4 * turn + 2)
            self.assertEqual(book.away("cy", turn, turn + 1), 4 * turn + 3)
        self.assertEqual(book.least(48), [["bob"]])
        self.assertEqual(book.least(49), [["bob"]])
        self.assertEqual(book.least(47), [["fay"]])
        book.strike(199)
        self.refused(NoEntry, book.strike, 200)

    def test_asking_enters_nothing(self):
        book = book_of(SIX, "ann")
        book.may(0, ["ann"])
        book.least(0)
        book.paper(0, ["bob"])
        self.assertEqual(book.away("ann", 0, 0), 1)

    def test_a_refused_deed_enters_nothing(self):
        book = book_of(["ann", "bob"], "ann")
        self.refused(NoDay, book.rule, -1, "bob")
        self.refused(NoRule, book.rule, 0, "bob, ann")
        self.refused(NoRule, book.rule, 0, "any(bob, cy)")
        self.refused(NoHand, book.away, "cy", 0, 9)
        self.refused(NoDay, book.away, "ann", -1, 9)
        self.refused(NoDay, book.away, "ann", 9, 0)
        self.refused(NoHand, book.deputy, "cy", "ann", 0, 9)
        self.refused(NoHand, book.deputy, "bob", "cy", 0, 9)
        self.refused(NoDeputy, book.deputy, "ann", "ann", 0, 9)
        self.refused(NoDay, book.deputy, "bob", "ann", 9, 0)
        self.refused(NoEntry, book.strike, 1)
        self.refused(NoEntry, book.strike, -1)
        self.may_just(book, ["ann", "bob"], 0, [["ann"]])
        self.assertEqual(book.away("ann", 5, 5), 1)
        # Had the refused deputy been entered, bob might sign here.
        self.may_just(book, ["ann", "bob"], 5, [])
        self.refused(NoEntry, book.strike, 2)

    def test_refused_questions_change_nothing(self):
        book = book_of(["ann", "bob"], "ann")
        for ask in [book.may, book.paper]:
            self.refused(NoDay, ask, -1, ["ann"])
            self.refused(NoHand, ask, 0, ["cy"])
        self.refused(NoDay, book.least, -1)
        self.may_just(book, ["ann", "bob"], 0, [["ann"]])
        self.assertEqual(book.rule(1, "bob"), 1)


class Refusals(BookTest):
    """The refusals of each method, in the order in which they go."""

    def test_rule(self):
        book = Book(["ann", "bob"])
        for day in [-1, -2, -FIGURES]:
            self.refused(NoDay, book.rule, day, "ann")
            self.refused(NoDay, book.rule, day, "")
            self.refused(NoDay, book.rule, day, "3 of (ann, bob)")
        for text, at in [("", 0), ("cy", 0), ("annn", 3), ("3 of (ann, bob)", 14), ("9 of (ann", 0), (" ann", 0),
                         ("all(ann,bob)", 8), ("any()", 4), ("all(" + "ann, " * 8 + "ann)", 42)]:
            for day in [0, 5, FIGURES]:
                self.assertEqual(self.refused(NoRule, book.rule, day, text).at, at, text)

    def test_away(self):
        book = Book(["ann", "bob"])
        for name in NO_NAMES + ["cy"]:
            for first, last in [(0, 0), (-1, 0), (0, -1), (2, 1), (-2, -1)]:
                self.refused(NoHand, book.away, name, first, last)
        for first, last in [(-1, 0), (0, -1), (-1, -1), (-2, -1), (1, 0), (FIGURES, FIGURES - 1), (-FIGURES, FIGURES)]:
            self.refused(NoDay, book.away, "ann", first, last)

    def test_deputy(self):
        book = Book(["ann", "bob"])
        for name in NO_NAMES + ["cy"]:
            for first, last in [(0, 0), (-1, 0), (2, 1)]:
                self.refused(NoHand, book.deputy, name, "ann", first, last)
                self.refused(NoHand, book.deputy, "ann", name, first, last)
                self.refused(NoHand, book.deputy, name, name, first, last)
        for first, last in [(0, 0), (-1, 0), (0, -1), (2, 1)]:
            self.refused(NoDeputy, book.deputy, "ann", "ann", first, last)
            self.refused(NoDeputy, book.deputy, "bob", "bob", first, last)
        for first, last in [(-1, 0), (0, -1), (-1, -1), (-2, -1), (1, 0), (FIGURES, FIGURES - 1), (-FIGURES, FIGURES)]:
            self.refused(NoDay, book.deputy, "ann", "bob", first, last)

    def test_may_and_paper(self):
        empty, ruled = Book(["ann", "bob"]), Book(["ann", "bob"])
        ruled.rule(5, "ann")
        for book in [empty, ruled]:
            for ask in [book.may, book.paper]:
                for day in [-1, -FIGURES]:
                    for names in [[], ["ann"], ["cy"]]:
                        self.refused(NoDay, ask, day, names)
                for name in NO_NAMES + ["cy"]:
                    for names in [[name], ["ann", name], [name, "ann"], ["ann", "bob", name]]:
                        for day in [0, 5]:
                            self.refused(NoHand, ask, day, names)
                for day in [0, 4]:
                    for names in [[], ["ann"], ["ann", "bob"]]:
                        self.refused(Unruled, ask, day, names)

    def test_least(self):
        book = Book(["ann", "bob"])
        for day in [-1, -FIGURES]:
            self.refused(NoDay, book.least, day)
        for day in [0, 1, FIGURES]:
            self.refused(Unruled, book.least, day)

    def test_strike(self):
        book = Book(["ann", "bob"])
        for number in [0, 1, -1, FIGURES, -FIGURES]:
            self.refused(NoEntry, book.strike, number)
        book.rule(0, "ann")
        book.away("ann", 0, 0)
        book.deputy("bob", "ann", 0, 0)
        for number in [3, 4, -1, -2, -3, -4, FIGURES, -FIGURES]:
            self.refused(NoEntry, book.strike, number)


class Striking(BookTest):
    def test_it_tells_none(self):
        book = book_of(["ann", "bob"], "ann")
        book.away("ann", 0, 0)
        book.deputy("bob", "ann", 0, 0)
        for number in [1, 0, 2]:
            self.assertIsNone(book.strike(number))

    def test_a_struck_entry_is_no_entry_any_more(self):
        book = book_of(["ann", "bob"], "ann")
        book.away("ann", 0, 0)
        book.deputy("bob", "ann", 0, 0)
        for number in range(3):
            book.strike(number)
            self.refused(NoEntry, book.strike, number)
            self.refused(NoEntry, book.strike, number)

    def test_its_number_is_not_given_again(self):
        book = Book(["ann", "bob"])
        for number in range(9):
            told = [book.rule(0, "ann"), book.away("ann", 0, 0), book.deputy("bob", "ann", 0, 0)][number % 3]
            self.assertEqual(told, 3 * number + number % 3)
            for entry in range(3 * number, 3 * number + 3):
                book.strike(entry)
        self.assertEqual(book.rule(0, "ann"), 27)
        for number in range(27):
            self.refused(NoEntry, book.strike, number)

    def test_a_struck_rule(self):
        book = book_of(["ann", "bob"], "ann")
        book.rule(5, "bob")
        book.rule(5, "all(ann, bob)")
        self.assertEqual(book.least(5), [["ann", "bob"]])
        book.strike(2)
        self.assertEqual(book.least(5), [["bob"]])
        book.strike(1)
        self.assertEqual(book.least(5), [["ann"]])
        book.strike(0)
        self.refused(Unruled, book.least, 5)
        self.refused(Unruled, book.may, 5, ["ann"])
        self.refused(Unruled, book.paper, 5, ["ann"])
        self.assertEqual(book.rule(5, "bob"), 3)
        self.assertEqual(book.least(5), [["bob"]])

    def test_an_earlier_rule_of_a_day_may_be_struck(self):
        book = Book(["ann", "bob"])
        book.rule(5, "ann")
        book.rule(5, "bob")
        book.strike(0)
        self.assertEqual(book.least(5), [["bob"]])

    def test_a_struck_absence(self):
        book = book_of(["ann", "bob"], "ann")
        book.deputy("bob", "ann", 0, 9)
        book.away("ann", 0, 5)
        book.away("ann", 5, 9)
        self.assertEqual([book.least(day) for day in [4, 5, 6]], [[["bob"]]] * 3)
        book.strike(2)
        self.assertEqual([book.least(day) for day in [4, 5, 6]], [[["ann"]], [["bob"]], [["bob"]]])
        book.strike(3)
        self.assertEqual([book.least(day) for day in [4, 5, 6]], [[["ann"]]] * 3)

    def test_a_struck_deputy(self):
        book = book_of(["ann", "bob", "cy"], "ann")
        book.away("ann", 0, 9)
        book.deputy("bob", "ann", 0, 9)
        book.deputy("bob", "ann", 5, 9)
        book.deputy("cy", "ann", 0, 9)
        self.assertEqual(book.least(3), [["bob"], ["cy"]])
        book.strike(2)
        self.assertEqual(book.least(3), [["cy"]])
        self.assertEqual(book.least(5), [["bob"], ["cy"]])
        book.strike(4)
        self.assertEqual(book.least(3), [])
        self.assertEqual(book.least(5), [["bob"]])


class RuleOfADay(BookTest):
    def test_from_its_day_on(self):
        book = Book(["ann", "bob"])
        book.rule(5, "ann")
        for day in [0, 4]:
            self.refused(Unruled, book.least, day)
        for day in [5, 6, 10 ** 30, FIGURES]:
            self.may_just(book, ["ann", "bob"], day, [["ann"]])

    def test_the_latest_that_is_not_after_the_day(self):
        days = [0, 1, 7, 10 ** 30, FIGURES]
        for order in permutations(range(5)):
            book = Book(SIX)
            for place in order:
                book.rule(days[place], SIX[place])
            for day, name in [(0, "ann"), (1, "bob"), (2, "bob"), (6, "bob"), (7, "cy"), (8, "cy"),
                              (10 ** 30 - 1, "cy"), (10 ** 30, "dee"), (FIGURES - 1, "dee"), (FIGURES, "eve")]:
                self.assertEqual(book.least(day), [[name]])

    def test_of_several_of_one_day_the_one_entered_last(self):
        book = Book(SIX)
        for name in ["cy", "ann", "fay", "bob"]:
            book.rule(3, name)
            book.rule(2, "dee")
            self.assertEqual(book.least(3), [[name]])
            self.assertEqual(book.least(4), [[name]])
            self.assertEqual(book.least(2), [["dee"]])
        book.rule(0, "eve")
        self.assertEqual(book.least(0), [["eve"]])
        self.assertEqual(book.least(3), [["bob"]])

    def test_several_of_day_0(self):
        book = Book(SIX)
        book.rule(0, "cy")
        book.rule(0, "ann")
        self.assertEqual(book.least(0), [["ann"]])

    def test_absences_and_deputies_rule_nothing(self):
        book = Book(["ann", "bob"])
        book.away("ann", 0, 9)
        book.deputy("bob", "ann", 0, 9)
        self.refused(Unruled, book.least, 5)


class Signing(BookTest):
    def test_a_hand_signs_for_itself(self):
        self.may_just(book_of(SIX[:3], "cy"), SIX[:3], 0, [["cy"]])
        pairs = [["ann", "bob"], ["ann", "cy"], ["bob", "cy"]]
        self.may_just(book_of(SIX[:3], "2 of (ann, bob, cy)"), SIX[:3], 0, pairs)

    def test_who_is_away_signs_nothing(self):
        book = book_of(SIX[:3], "2 of (ann, bob, cy)")
        book.away("bob", 3, 5)
        for day in [2, 6]:
            self.may_just(book, SIX[:3], day, [["ann", "bob"], ["ann", "cy"], ["bob", "cy"]])
        for day in [3, 4, 5]:
            self.may_just(book, SIX[:3], day, [["ann", "cy"]])

    def test_first_and_last_day_the_same(self):
        for only in [0, 7, FIGURES]:
            book = book_of(SIX[:2], "ann")
            book.away("ann", only, only)
            book.deputy("bob", "ann", only, only)
            self.may_just(book, SIX[:2], only, [["bob"]])
            self.may_just(book, SIX[:2], only + 1, [["ann"]])
            if only > 0:
                self.may_just(book, SIX[:2], only - 1, [["ann"]])

    def test_days_far_apart(self):
        book = book_of(SIX[:2], "ann")
        book.away("ann", 1, FIGURES - 1)
        book.deputy("bob", "ann", 2, FIGURES - 2)
        for day, wanted in [(0, [["ann"]]), (1, []), (2, [["bob"]]), (10 ** 59, [["bob"]]), (FIGURES - 2, [["bob"]]),
                            (FIGURES - 1, []), (FIGURES, [["ann"]])]:
            self.may_just(book, SIX[:2], day, wanted)

    def test_absences_that_overlap_and_that_leave_a_gap(self):
        book = book_of(["ann"], "ann")
        book.away("ann", 2, 4)
        book.away("ann", 4, 6)
        book.away("ann", 8, 8)
        there = [day for day in range(11) if book.may(day, ["ann"])]
        self.assertEqual(there, [0, 1, 7, 9, 10])

    def test_nobody_signs_for_who_is_there(self):
        book = book_of(SIX[:2], "ann")
        book.deputy("bob", "ann", 0, 9)
        self.may_just(book, SIX[:2], 5, [["ann"]])
        book.away("bob", 0, 9)
        self.may_just(book, SIX[:2], 5, [["ann"]])

    def test_a_deputy_who_is_away_signs_nothing(self):
        book = book_of(SIX[:2], "ann")
        book.away("ann", 0, 9)
        book.deputy("bob", "ann", 0, 9)
        book.away("bob", 5, 5)
        self.may_just(book, SIX[:2], 4, [["bob"]])
        self.may_just(book, SIX[:2], 5, [])

    def test_a_deputy_of_a_deputy_signs_nothing_by_that(self):
        book = book_of(SIX[:3], "ann")
        book.away("ann", 0, 9)
        book.deputy("bob", "ann", 0, 9)
        book.deputy("cy", "bob", 0, 9)
        self.may_just(book, SIX[:3], 5, [["bob"]])
        book.away("bob", 0, 9)
        self.may_just(book, SIX[:3], 5, [])
        book.deputy("cy", "ann", 5, 5)
        self.may_just(book, SIX[:3], 5, [["cy"]])

    def test_deputies_of_one_another(self):
        book = book_of(SIX[:2], "any(ann, bob)")
        book.deputy("ann", "bob", 0, 9)
        book.deputy("bob", "ann", 0, 9)
        self.may_just(book, SIX[:2], 0, [["ann"], ["bob"]])
        book.away("ann", 0, 9)
        self.may_just(book, SIX[:2], 0, [["bob"]])
        book.away("bob", 0, 9)
        self.may_just(book, SIX[:2], 0, [])

    def test_the_deputy_signs_for_the_hand_and_not_the_other_way_about(self):
        book = book_of(SIX[:2], "bob")
        book.away("bob", 0, 9)
        book.deputy("bob", "ann", 0, 9)
        self.may_just(book, SIX[:2], 0, [])
        book.deputy("ann", "bob", 0, 9)
        self.may_just(book, SIX[:2], 0, [["ann"]])

    def test_several_deputies(self):
        book = book_of(SIX, "all(ann, fay)")
        book.away("ann", 0, 9)
        for name in ["eve", "bob", "cy"]:
            book.deputy(name, "ann", 0, 9)
        self.may_just(book, SIX, 0, [["bob", "fay"], ["cy", "fay"], ["eve", "fay"]])

    def test_one_signs_for_several(self):
        book = book_of(SIX[:4], "3 of (ann, bob, cy, dee)")
        book.away("ann", 0, 9)
        book.away("bob", 0, 9)
        book.deputy("dee", "ann", 0, 9)
        book.deputy("dee", "bob", 0, 9)
        self.may_just(book, SIX[:4], 0, [["dee"]])
        self.assertEqual(book.paper(0, ["dee"]), (True, [("ann", "dee"), ("bob", "dee"), ("dee", "dee")]))

    def test_deputies_of_other_days(self):
        book = book_of(SIX[:2], "ann")
        book.away("ann", 0, 9)
        book.deputy("bob", "ann", 3, 4)
        self.assertEqual([day for day in range(10) if book.may(day, ["bob"])], [3, 4])

    def test_a_hand_in_several_places(self):
        book = book_of(SIX[:3], "2 of (ann, ann, bob, cy)")
        self.may_just(book, SIX[:3], 0, [["ann"], ["bob", "cy"]])
        book.away("ann", 1, 1)
        book.deputy("cy", "ann", 1, 1)
        self.may_just(book, SIX[:3], 1, [["cy"]])


class NamesHandedIn(BookTest):
    def test_in_whatever_order_and_twice(self):
        book = book_of(SIX[:4], "all(ann, cy)")
        book.away("cy", 5, 5)
        book.deputy("dee", "cy", 5, 5)
        for day, pair in [(0, "cy"), (5, "dee")]:
            wanted = (True, [("ann", "ann"), ("cy", pair)])
            for names in [["ann", pair], [pair, "ann"], [pair, "ann", pair, pair, "ann"], [pair] * 100 + ["ann"] * 100]:
                self.assertIs(book.may(day, names), True)
                self.assertEqual(book.paper(day, names), wanted)
        for names in [["cy"], ["cy"] * 200, ["bob", "cy", "bob", "dee"]]:
            self.assertIs(book.may(0, names), False)
            self.assertEqual(book.paper(0, names), (False, ["ann"]))

    def test_none(self):
        book = book_of(SIX[:2], "any(ann, bob)")
        self.assertIs(book.may(0, []), False)
        self.assertEqual(book.paper(0, []), (False, ["ann", "bob"]))


class Least(BookTest):
    def test_the_order_of_groups_and_of_names(self):
        book = book_of(SIX, "any(all(cy, bob), all(fay, ann), all(eve, dee, ann), all(dee, cy, eve))")
        self.assertEqual(book.least(0), [["ann", "fay"], ["bob", "cy"], ["ann", "dee", "eve"], ["cy", "dee", "eve"]])
        book = book_of(SIX, "any(all(ann, bob), fay)")
        self.assertEqual(book.least(0), [["fay"], ["ann", "bob"]])

    def test_none_where_nobody_may(self):
        book = book_of(SIX, "all(ann, bob)")
        book.away("bob", 0, 0)
        self.assertEqual(book.least(0), [])

    def test_fewer_names_than_roles(self):
        book = book_of(SIX, "all(ann, bob, cy, dee, eve, fay)")
        for name in SIX[1:]:
            book.away(name, 1, 1)
            book.deputy("ann", name, 1, 1)
        self.assertEqual(book.least(0), [SIX])
        self.assertEqual(book.least(1), [["ann"]])

    def test_a_group_that_holds_a_lesser_one_is_not_told(self):
        book = book_of(SIX[:3], "any(ann, all(bob, cy))")
        book.away("ann", 0, 0)
        book.deputy("bob", "ann", 0, 0)
        self.assertEqual(book.least(0), [["bob"]])


class Paper(BookTest):
    def test_told_true(self):
        book = book_of(SIX, "all(fay, bob)")
        self.assertEqual(book.paper(0, ["fay", "ann", "bob"]), (True, [("bob", "bob"), ("fay", "fay")]))
        book.away("bob", 1, 1)
        book.deputy("ann", "bob", 1, 1)
        self.assertEqual(book.paper(1, ["fay", "ann", "bob"]), (True, [("bob", "ann"), ("fay", "fay")]))

    def test_told_false(self):
        book = book_of(SIX, "all(any(ann, fay), bob)")
        self.assertEqual(book.paper(0, ["fay", "ann"]), (False, ["bob"]))
        self.assertEqual(book.paper(0, ["bob"]), (False, ["ann", "fay"]))
        self.assertIn(book.paper(0, ["cy"]), [(False, ["bob"]), (False, ["ann", "fay"])])

    def test_one_of_several_signers(self):
        book = book_of(SIX[:3], "ann")
        book.away("ann", 0, 0)
        book.deputy("cy", "ann", 0, 0)
        book.deputy("bob", "ann", 0, 0)
        self.assertEqual(book.paper(0, ["cy", "ann"]), (True, [("ann", "cy")]))
        self.assertEqual(book.paper(0, ["bob", "ann"]), (True, [("ann", "bob")]))
        self.assertIn(book.paper(0, ["bob", "cy"]), [(True, [("ann", "bob")]), (True, [("ann", "cy")])])

    def test_no_role_but_those_of_a_least_group(self):
        book = book_of(SIX[:3], "2 of (ann, bob, cy)")
        told = book.paper(0, ["ann", "bob", "cy"])
        self.assertIn(told[1], [[(name, name) for name in pair] for pair in combinations(SIX[:3], 2)])

    def test_kinds(self):
        book = book_of(SIX[:2], "ann")
        for names, kind in [(["ann"], tuple), (["bob"], str)]:
            told = book.paper(0, names)
            self.assertIs(type(told), tuple)
            self.assertEqual(len(told), 2)
            self.assertIs(told[0], kind is tuple)
            self.assertIs(type(told[1]), list)
            self.assertEqual({type(thing) for thing in told[1]}, {kind})


class ByChance(BookTest):
    """Books of many entries, held against the document said plainly; the same ones at each run."""

    def deed(self, chance, book, plain, names):
        """Enters or strikes something in both books, or has it refused."""
        kind = chance.choice(["rule", "away", "away", "deputy", "deputy", "strike"])
        first, last = chance.randrange(-1, 7), chance.randrange(0, 7)
        name, hand = chance.choice(names), chance.choice(names)
        shape = chosen_shape(chance, names, 3)
        if kind == "strike":
            self.strike(chance.randrange(-2, len(plain.entries) + 2), book, plain)
        elif kind == "rule":
            refusal = NoDay if first < 0 else None
            self.enter(refusal, book.rule, (first, shape_text(shape)), plain, ("rule", first, shape))
        elif kind == "away":
            refusal = NoDay if first < 0 or last < first else None
            self.enter(refusal, book.away, (name, first, last), plain, ("away", name, first, last))
        else:
            refusal = NoDeputy if name == hand else NoDay if first < 0 or last < first else None
            self.enter(refusal, book.deputy, (name, hand, first, last), plain, ("deputy", name, hand, first, last))

    def enter(self, refusal, call, handed, plain, entry):
        if refusal is None:
            self.assertEqual(call(*handed), plain.enter(*entry))
        else:
            self.refused(refusal, call, *handed)

    def strike(self, number, book, plain):
        if 0 <= number < len(plain.entries) and plain.entries[number] is not None:
            book.strike(number)
            plain.strike(number)
        else:
            self.refused(NoEntry, book.strike, number)

    def paper_holds(self, plain, day, names, told):
        if told[0]:
            roles = [role for role, signer in told[1]]
            self.assertTrue(plain.is_least(day, set(roles)), told)
            for role, signer in told[1]:
                self.assertIn(signer, plain.signers(day, role, names))
        else:
            roles = told[1]
            self.assertTrue(plain.is_stopping(day, set(roles)), told)
            self.assertFalse(set(roles) & plain.signed(day, names), told)
        self.assertEqual(roles, [name for name in plain.roll if name in roles])

    def day_holds(self, book, plain, day, lists):
        """Holds where the book answers like the plain one; tells all that it told of papers."""
        if plain.shape_on(day) is None:
            self.refused(Unruled, book.least, day)
            for ask in [book.may, book.paper]:
                self.refused(Unruled, ask, day, lists[-1])
            return set()
        self.assertEqual(book.least(day), plain.least(day))
        for names in lists:
            told = book.paper(day, names)
            self.assertIs(told[0], plain.may(day, names))
            self.assertIs(book.may(day, names), told[0])
            self.paper_holds(plain, day, names, told)
        return {book.paper(day, names)[0] for names in lists}

    def test_books_of_many_entries(self):
        chance = Random(23)
        told = set()
        for turn in range(60):
            names = chance.sample(SIX, 1 + turn % 6)
            book, plain = Book(names), PlainBook(names)
            for stop in range(4):
                for deed in range(chance.randrange(1, 14)):
                    self.deed(chance, book, plain, names)
                lists = [chance.choices(names, k=chance.randrange(8)) for choice in range(5)] + [names]
                for day in range(8):
                    told |= self.day_holds(book, plain, day, lists)
        self.assertEqual(told, {True, False})


class ListsOfTheAsker(BookTest):
    """Point 2: what is handed in stays, and what is told is the asker's own."""

    def test_the_names_of_the_roll(self):
        names = ["ann", "bob"]
        book = Book(names)
        self.assertEqual(names, ["ann", "bob"])
        names.reverse()
        names.append("cy")
        book.rule(0, "any(bob, ann)")
        self.refused(NoHand, book.away, "cy", 0, 0)
        self.assertEqual(book.least(0), [["ann"], ["bob"]])

    def test_the_names_that_sign_stay_as_they_were(self):
        book = book_of(["ann", "bob"], "ann")
        for names in [[], ["bob", "ann", "bob"], ["bob"]]:
            kept = list(names)
            book.may(0, names)
            book.paper(0, names)
            self.assertEqual(names, kept)

    def test_told_lists_that_are_changed_change_nothing(self):
        book = book_of(["ann", "bob", "cy"], "2 of (ann, bob, cy)")
        told = book.least(0)
        for group in told:
            group.clear()
        told.clear()
        for names in [["ann", "bob"], ["cy"]]:
            kept = repr(book.paper(0, names))
            book.paper(0, names)[1].clear()
            self.assertEqual(repr(book.paper(0, names)), kept)
        self.may_just(book, ["ann", "bob", "cy"], 0, [["ann", "bob"], ["ann", "cy"], ["bob", "cy"]])

    def test_what_is_done_later_changes_nothing_told(self):
        book = book_of(["ann", "bob"], "any(ann, bob)")
        names, others = ["ann"], []
        told = [book.least(0), book.paper(0, names), book.paper(0, others)]
        kept = repr(told)
        names.clear()
        others.append("bob")
        book.rule(0, "all(ann, bob)")
        book.away("ann", 0, 0)
        book.least(0)
        book.paper(0, ["bob"])
        book.strike(0)
        self.assertEqual(repr(told), kept)


class Interface(BookTest):
    def test_the_arguments_have_their_names(self):
        book = Book(names=["ann", "bob"])
        self.assertEqual(book.rule(day=0, text="ann"), 0)
        self.assertEqual(book.away(name="ann", first=1, last=2), 1)
        self.assertEqual(book.deputy(name="bob", hand="ann", first=1, last=2), 2)
        self.assertIs(book.may(day=1, names=["bob"]), True)
        self.assertEqual(book.least(day=1), [["bob"]])
        self.assertEqual(book.paper(day=1, names=["bob"]), (True, [("ann", "bob")]))
        self.assertIsNone(book.strike(number=2))


if __name__ == "__main__":
    unittest.main()
