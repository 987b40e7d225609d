"""Stand-ins: which hand may stand in for which, and whether the hands are in line."""

from signright.hands import groups_of, has_hand
from signright.ladders import lets


def with_stand_in(group, i, j):
    """The group, which has the hand j and not i, with i in the place of j."""
    return group - (1 << j) + (1 << i)


def shows_against(ladder, group, i, j):
    """True where the group shows that the hand i does not stand in for the hand j."""
    if has_hand(group, i) or not has_hand(group, j):
        return False
    return lets(ladder, group) and not lets(ladder, with_stand_in(group, i, j))


def stands_in(count, ladder, i, j):
    """(True, None) where the hand i stands in for the hand j, or (False, the first group that shows against it)."""
    for group in groups_of(count):
        if shows_against(ladder, group, i, j):
            return (False, group)
    return (True, None)


def out_of_line(count, ladder):
    """Two hands of which neither stands in for the other, with a group against each, or None."""
    for i in range(count):
        for j in range(i + 1, count):
            one = stands_in(count, ladder, i, j)
            two = stands_in(count, ladder, j, i)
            if not one[0] and not two[0]:
                return (i, j, one[1], two[1])
    return None


def reach(count, ladder, hand):
    """How many hands the hand stands in for, itself among them."""
    return len([other for other in range(count) if stands_in(count, ladder, hand, other)[0]])


def lots_of(count, ladder):
    """The lots of hands that are in line, the first lot standing in for all others."""
    # Who stands in for a hand also does for those for whom that hand does. So in line, hands of the same
    # reach stand in for one another, and one of a greater reach stands in for one of a lesser, not the other
    # way about.
    reaches = [reach(count, ladder, hand) for hand in range(count)]
    lots = []
    for many in range(count, 0, -1):
        lot = [hand for hand in range(count) if reaches[hand] == many]
        if lot:
            lots.append(lot)
    return lots


def line(count, ladder):
    """(True, lots) where the hands are in line, else (False, two hands with a group against each)."""
    against = out_of_line(count, ladder)
    if against is None:
        return (True, lots_of(count, ladder))
    return (False, against)
