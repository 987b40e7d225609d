"""Shares: how much each hand weighs, by counting."""

from signright.hands import groups_of, hands_of, has_hand
from signright.ladders import lets


def is_swung(ladder, group, hand):
    """True where the group is without the hand and not let by, and with the hand is."""
    if has_hand(group, hand) or lets(ladder, group):
        return False
    return lets(ladder, group | (1 << hand))


def swung_groups(count, ladder, hand):
    """The groups of so many hands that are not let by without the hand, and with it are."""
    return [group for group in groups_of(count) if is_swung(ladder, group, hand)]


def product_to(number):
    """The product of the numbers from 1 to this one."""
    product = 1
    for factor in range(1, number + 1):
        product *= factor
    return product


def orders_behind(count, group):
    """In how many orders of so many hands a hand has just the group ahead of it."""
    ahead = len(hands_of(group))
    return product_to(ahead) * product_to(count - 1 - ahead)


def turns_of(count, ladder, hand):
    """The orders, counted, in which the hand is the one with whom the group ahead is first let by."""
    return sum([orders_behind(count, group) for group in swung_groups(count, ladder, hand)])


def turns(count, ladder):
    """The turns of each hand, in order."""
    return [turns_of(count, ladder, hand) for hand in range(count)]


def swings(count, ladder):
    """The swings of each hand, in order."""
    return [len(swung_groups(count, ladder, hand)) for hand in range(count)]
