"""The book: rules, absences and deputies by days, and who may sign on a day."""

from signright.errors import NoDay, NoDeputy, NoEntry, Unruled
from signright.hands import group_of, groups_of, hands_of, has_hand, names_of, roll_of, within
from signright.ladders import least, lets, stopping
from signright.reader import read


def check_day(day):
    """Refuses with NoDay what is no day."""
    if day < 0:
        raise NoDay("a day is a whole number from 0 on")


def check_days(first, last):
    """Refuses with NoDay what are no first and last day."""
    check_day(first)
    # A last day below 0 comes before the first one, too.
    if last < first:
        raise NoDay("the last day comes before the first one")


def signed_roles(signers, group):
    """The group of the roles that are signed by one of the group; signers tells a group for each role."""
    return sum([1 << role for role in range(len(signers)) if (signers[role] & group) != 0])


class Book:
    """What was entered and not struck, each entry by its number."""

    def __init__(self, names):
        self.roll = roll_of(names)
        self.entered = 0
        # By number: (first day, ladder); (hand, first day, last day); (deputy, hand, first day, last day).
        # A hand is kept as the group of it alone.
        self.rulings = {}
        self.absences = {}
        self.deputings = {}

    def number_entry(self):
        """The number of a new entry."""
        self.entered += 1
        return self.entered - 1

    def rule(self, day, text):
        """Enters a rule from the day on, and tells its number; refuses with NoDay, NoRule."""
        check_day(day)
        ladder = read(self.roll, text).ladder(self.roll)
        number = self.number_entry()
        self.rulings[number] = (day, ladder)
        return number

    def away(self, name, first, last):
        """Enters an absence of the hand, and tells its number; refuses with NoHand, NoDay."""
        hand = group_of(self.roll, [name])
        check_days(first, last)
        number = self.number_entry()
        self.absences[number] = (hand, first, last)
        return number

    def deputy(self, name, hand, first, last):
        """Enters name as a deputy of hand, and tells the number; refuses with NoHand, NoDeputy, NoDay."""
        signer = group_of(self.roll, [name])
        role = group_of(self.roll, [hand])
        if signer == role:
            raise NoDeputy(f"{name!r} can't be a deputy of itself")
        check_days(first, last)
        number = self.number_entry()
        self.deputings[number] = (signer, role, first, last)
        return number

    def strike(self, number):
        """Takes the entry out of the book; refuses with NoEntry."""
        if number in self.rulings:
            self.rulings.pop(number)
        elif number in self.absences:
            self.absences.pop(number)
        elif number in self.deputings:
            self.deputings.pop(number)
        else:
            raise NoEntry("the number is no entry's, or that of a struck one")

    def ladder_on(self, day):
        """The ladder of the rule of the day; refuses with Unruled."""
        found = None
        latest = 0
        # They stand as they were entered, so of several with the same day the last one is found.
        for first, ladder in self.rulings.values():
            if latest <= first <= day:
                found = ladder
                latest = first
        if found is None:
            raise Unruled("the day has no rule")
        return found

    def away_on(self, day):
        """The group of the hands that are away on the day."""
        group = 0
        for hand, first, last in self.absences.values():
            if first <= day <= last:
                group = group | hand
        return group

    def deputies_on(self, day, role):
        """The group of the deputies that the hand, told as a group of one, has on the day."""
        group = 0
        for signer, hand, first, last in self.deputings.values():
            if hand == role and first <= day <= last:
                group = group | signer
        return group

    def signers_on(self, day):
        """For each role the group of those by whom it can be signed on the day."""
        there = (1 << len(self.roll)) - 1 - self.away_on(day)
        signers = []
        for hand in range(len(self.roll)):
            role = 1 << hand
            if has_hand(there, hand):
                signers.append(role)
            else:
                signers.append(self.deputies_on(day, role) & there)
        return signers

    def may(self, day, names):
        """True where the names may sign on the day; refuses with NoDay, NoHand, Unruled."""
        check_day(day)
        group = group_of(self.roll, names)
        ladder = self.ladder_on(day)
        return lets(ladder, signed_roles(self.signers_on(day), group))

    def least(self, day):
        """The least groups of names that may sign on the day; refuses with NoDay, Unruled."""
        check_day(day)
        ladder = self.ladder_on(day)
        signers = self.signers_on(day)
        groups = [group for group in groups_of(len(self.roll)) if lets(ladder, signed_roles(signers, group))]
        return [names_of(self.roll, group) for group in least(groups)]

    def first_name(self, group):
        """The name of the group's first hand."""
        return names_of(self.roll, group)[0]

    def paper(self, day, names):
        """(True, who signs for the roles of a least group), or (False, a stopping group of roles not signed).

        Refuses with NoDay, NoHand, Unruled.
        """
        check_day(day)
        group = group_of(self.roll, names)
        ladder = self.ladder_on(day)
        signers = self.signers_on(day)
        signed = signed_roles(signers, group)
        if not lets(ladder, signed):
            unsigned = [step for step in stopping(len(self.roll), ladder) if (step & signed) == 0]
            return (False, names_of(self.roll, unsigned[0]))
        roles = [step for step in ladder if within(step, signed)][0]
        return (True, [(self.roll[role], self.first_name(signers[role] & group)) for role in hands_of(roles)])
