"""Hands by their names, and groups of hands told by whole numbers."""

from signright.errors import NoGroup, NoHand, NoRoll

MOST_HANDS = 6
MOST_SIGNS = 20
# The texts of rules use these words, so no hand may be called so.
KEPT_WORDS = ("all", "any", "of")


def is_name(text):
    """True where the text may be the name of a hand."""
    if text in KEPT_WORDS or not 1 <= len(text) <= MOST_SIGNS:
        return False
    # Not islower: it lets digits and letters beyond z by.
    return all(["a" <= sign <= "z" for sign in text])


def roll_of(names):
    """The roll of a list of names; refuses with NoRoll."""
    if not 1 <= len(names) <= MOST_HANDS:
        raise NoRoll(f"a roll has from one to {MOST_HANDS} names")
    roll = []
    for name in names:
        if not is_name(name):
            raise NoRoll(f"{name!r} is no name")
        if name in roll:
            raise NoRoll(f"{name!r} stands twice")
        roll.append(name)
    return tuple(roll)


def has_hand(group, hand):
    """True where the hand, told by its number, is in the group."""
    return (group >> hand) & 1 == 1


def hands_of(group):
    """The numbers of the group's hands, rising."""
    return [hand for hand in range(group.bit_length()) if has_hand(group, hand)]


def group_of(roll, names):
    """The group of some names of the roll; refuses with NoHand."""
    group = 0
    for name in names:
        if name not in roll:
            raise NoHand(f"{name!r} is no name of the roll")
        group = group | (1 << roll.index(name))
    return group


def names_of(roll, group):
    """The names of the group's hands, in the roll's order; refuses with NoGroup."""
    if not 0 <= group < (1 << len(roll)):
        raise NoGroup(f"{group} is no group of the roll's hands")
    return [roll[hand] for hand in hands_of(group)]


def place(group):
    """What groups are compared by to put them in order."""
    hands = hands_of(group)
    # Where two lists as long first differ, the lesser hand is the first that just one group has.
    return (len(hands), hands)


def before(one, two):
    """True where the group one comes before the group two."""
    return place(one) < place(two)


def within(one, two):
    """True where each hand of the group one is in the group two, too."""
    return (one & two) == one


def groups_of(count):
    """All groups of so many hands, in order."""
    return sorted(range(1 << count), key=place)
