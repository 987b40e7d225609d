"""What the document says of a book, said again over sets of names and shapes of rules, to test the program by."""

from plainly import in_order, hands, shape_lets


class PlainBook:
    """A book as a list of all that was entered, with None in the place of what was struck."""

    def __init__(self, roll):
        self.roll = list(roll)
        self.entries = []

    def enter(self, *entry):
        """Takes up ("rule", day, shape), ("away", name, first, last) or ("deputy", name, hand, first, last)."""
        self.entries.append(entry)
        return len(self.entries) - 1

    def strike(self, number):
        self.entries[number] = None

    def standing(self, kind):
        """The entries of a kind that are not struck, without the word for the kind."""
        return [entry[1:] for entry in self.entries if entry is not None and entry[0] == kind]

    def shape_on(self, day):
        """The shape of the rule of the day, or None."""
        found = None
        for start in range(day + 1):
            for first, shape in self.standing("rule"):
                if first == start:
                    found = shape
        return found

    def is_away(self, day, name):
        return any(who == name and day in range(first, last + 1) for who, first, last in self.standing("away"))

    def signers(self, day, role, names):
        """The set of those of the names by whom the role is signed."""
        there = {name for name in names if not self.is_away(day, name)}
        if not self.is_away(day, role):
            return there & {role}
        standing = self.standing("deputy")
        return there & {who for who, whom, first, last in standing if whom == role and first <= day <= last}

    def signed(self, day, names):
        return {role for role in self.roll if self.signers(day, role, names)}

    def may(self, day, names):
        return shape_lets(self.shape_on(day), self.signed(day, names))

    def least(self, day):
        """The least groups of names that may sign, by trying all of them."""
        named = [[self.roll[hand] for hand in sorted(hands(group))] for group in in_order(range(2 ** len(self.roll)))]
        let = [names for names in named if self.may(day, names)]
        return [names for names in let if not any(set(fewer) < set(names) for fewer in let)]

    def is_least(self, day, roles):
        """Whether the day's rule lets the roles by, and none fewer of them."""
        shape = self.shape_on(day)
        return shape_lets(shape, roles) and not any(shape_lets(shape, roles - {role}) for role in roles)

    def is_stopping(self, day, roles):
        """Whether the day's rule lets none by without the roles, and would without any fewer of them."""
        shape = self.shape_on(day)
        others = set(self.roll) - roles
        return not shape_lets(shape, others) and all(shape_lets(shape, others | {role}) for role in roles)
