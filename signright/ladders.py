"""Ladders: lists of least groups, and what they let by."""

from signright.hands import MOST_HANDS, groups_of, place, within


def lets(ladder, group):
    """True where one of the ladder's groups lies within the group."""
    return any([within(step, group) for step in ladder])


def least(groups):
    """The ladder that lets by just the groups within which one of the list lies."""
    ladder = []
    # A group comes behind all that lie within it, so what is once taken up stays.
    for group in sorted(groups, key=place):
        if not lets(ladder, group):
            ladder.append(group)
    return ladder


def either(ladder, second):
    """The ladder of what at least one of two ladders lets by."""
    return least(ladder + second)


def both(ladder, second):
    """The ladder of what both of two ladders let by."""
    joined = []
    for one in ladder:
        joined.extend([one | two for two in second])
    return least(joined)


def letting(ladders, group):
    """How many of the ladders let the group by."""
    return len([ladder for ladder in ladders if lets(ladder, group)])


def some(many, ladders):
    """The ladder of what at least so many of the ladders let by."""
    # There are few groups, but far too many choices of ladders out of a long list.
    return least([group for group in groups_of(MOST_HANDS) if letting(ladders, group) >= many])


def meets_each(group, ladder):
    """True where the group has a hand in common with each group of the ladder."""
    return all([(group & step) != 0 for step in ladder])


def stopping(count, ladder):
    """The ladder of the groups of so many hands that meet each group of the ladder."""
    return least([group for group in groups_of(count) if meets_each(group, ladder)])


def parted(count, ladder, second):
    """The first group of so many hands that just one of two ladders lets by, or None."""
    for group in groups_of(count):
        if lets(ladder, group) != lets(second, group):
            return group
    return None
