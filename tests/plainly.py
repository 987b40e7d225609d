"""What the document says of groups and ladders, said again over sets, to test the program by."""

from functools import cmp_to_key
from itertools import combinations

FIGURES = 10 ** 60 - 1


def hands(group):
    """The set of the hands of a group, by the numbers that the document adds up."""
    return {hand for hand, number in enumerate([1, 2, 4, 8, 16, 32]) if group // number % 2}


def comes_before(one, two):
    ones, twos = hands(one), hands(two)
    if len(ones) != len(twos):
        return len(ones) < len(twos)
    unlike = ones ^ twos
    return bool(unlike) and min(unlike) in ones


def in_order(groups):
    return sorted(set(groups), key=cmp_to_key(lambda a, b: -1 if comes_before(a, b) else int(a != b)))


def lets_by(ladder, group):
    return any(hands(step) <= hands(group) for step in ladder)


def is_ladder(groups):
    apart = all(not hands(a) <= hands(b) for a in groups for b in groups if a != b)
    return isinstance(groups, list) and groups == in_order(groups) and apart


def all_ladders(count):
    """Each ladder of groups of so many hands."""
    found = [[]]
    for group in in_order(range(2 ** count)):
        found += [ladder + [group] for ladder in found if not lets_by(ladder, group)]
    return found


def six_handed_ladders():
    """Some ladders over six hands: small, wide and lopsided ones."""
    wide = [[sum(2 ** hand for hand in chosen) for chosen in combinations(range(6), size)] for size in range(7)]
    odd = [[], [1], [32], [1, 2], [3, 12, 48], [1, 6, 10, 12], [33, 18, 12], [16, 35, 41, 14], [31, 47], [7, 56]]
    return [in_order(ladder) for ladder in wide + odd]
