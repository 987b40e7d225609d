"""Rules: a hand, or a count of parts that must let a group by."""

from signright.hands import group_of, within
from signright.ladders import some


class Rule:
    """Which groups may sign; each rule is of one of the classes under this one."""

    def shape(self):
        """The rule as a tuple."""
        raise NotImplementedError("a rule is a hand or counts its parts")

    def text(self):
        """The text of which the rule can be read again."""
        raise NotImplementedError("a rule is a hand or counts its parts")

    def lets(self, roll, group):
        """True where the group of the roll's hands is let by; refuses with NoHand."""
        raise NotImplementedError("a rule is a hand or counts its parts")

    def ladder(self, roll):
        """The ladder of the groups that are let by; refuses with NoHand."""
        raise NotImplementedError("a rule is a hand or counts its parts")


class Hand(Rule):
    """Lets a group by where the hand is in it."""

    def __init__(self, name):
        self.name = name

    def shape(self):
        return ("hand", self.name)

    def text(self):
        return self.name

    def lets(self, roll, group):
        return within(group_of(roll, [self.name]), group)

    def ladder(self, roll):
        return [group_of(roll, [self.name])]


class Counting(Rule):
    """Lets a group by where at least the wanted number of the parts do."""

    def __init__(self, wanted, parts):
        self.wanted = wanted
        # A copy, since the list stays the asker's, who may change it later.
        self.parts = tuple(parts)

    def lets(self, roll, group):
        # Each part is asked, even where the count is reached: a name that is none of the roll's must be refused.
        letting = [part for part in self.parts if part.lets(roll, group)]
        return len(letting) >= self.wanted

    def ladder(self, roll):
        return some(self.wanted, [part.ladder(roll) for part in self.parts])

    def shapes_of_parts(self):
        """The shapes of the parts, as a tuple."""
        return tuple([part.shape() for part in self.parts])

    def text_of_parts(self):
        """The texts of the parts, with what stands between them."""
        return ", ".join([part.text() for part in self.parts])


class All(Counting):
    """Lets a group by where all parts do."""

    def __init__(self, parts):
        Counting.__init__(self, len(parts), parts)

    def shape(self):
        return ("all", self.shapes_of_parts())

    def text(self):
        return "all(" + self.text_of_parts() + ")"


class Any(Counting):
    """Lets a group by where at least one part does."""

    def __init__(self, parts):
        Counting.__init__(self, 1, parts)

    def shape(self):
        return ("any", self.shapes_of_parts())

    def text(self):
        return "any(" + self.text_of_parts() + ")"


class Some(Counting):
    """Lets a group by where at least so many parts do."""

    def __init__(self, many, parts):
        Counting.__init__(self, many, parts)

    def shape(self):
        return ("some", self.wanted, self.shapes_of_parts())

    def text(self):
        return str(self.wanted) + " of (" + self.text_of_parts() + ")"
