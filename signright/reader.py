"""Rules read from their texts, sign by sign."""

from signright.errors import NoRule
from signright.rules import All, Any, Hand, Some

MOST_PARTS = 8
# What the text of a rule that counts its parts begins with, and how many parts it has at least.
FEWEST_PARTS = {
    "all(": 1,
    "any(": 1,
    "1 of (": 1,
    "2 of (": 2,
    "3 of (": 3,
    "4 of (": 4,
    "5 of (": 5,
    "6 of (": 6,
    "7 of (": 7,
    "8 of (": 8,
}


def shared_signs(text, word):
    """How many signs the text and the word have in common from their beginnings on."""
    signs = 0
    for one, two in zip(text, word):
        if one != two:
            break
        signs += 1
    return signs


def counting_rule(opening, parts):
    """The rule that counts the parts as its opening says."""
    if opening == "all(":
        return All(parts)
    if opening == "any(":
        return Any(parts)
    return Some(FEWEST_PARTS[opening], parts)


class Reading:
    """A text that is being read, and the place up to which it can be the beginning of a rule's text."""

    def __init__(self, roll, text):
        self.words = list(roll) + list(FEWEST_PARTS)
        self.signs = text
        self.at = 0

    def take_word(self):
        """Reads a name or an opening, and tells it."""
        rest = self.signs[self.at:]
        reach = max([shared_signs(rest, word) for word in self.words])
        self.at += reach
        # A name that ends ahead of the reach can't be meant: a letter would come behind it.
        if rest[:reach] not in self.words:
            raise NoRule(self.at)
        return rest[:reach]

    def comes(self, sign):
        """True where the sign comes at the place."""
        return self.signs[self.at:self.at + 1] == sign

    def take_sign(self, sign):
        """Reads just this sign."""
        if not self.comes(sign):
            raise NoRule(self.at)
        self.at += 1

    def take_parts(self, fewest):
        """Reads the parts behind an opening, and the bracket that closes them; tells the parts."""
        parts = [self.take_rule()]
        while len(parts) < fewest or not self.comes(")"):
            if len(parts) == MOST_PARTS:
                raise NoRule(self.at)
            self.take_sign(",")
            self.take_sign(" ")
            parts.append(self.take_rule())
        self.take_sign(")")
        return parts

    def take_rule(self):
        """Reads a rule, and tells it."""
        word = self.take_word()
        if word not in FEWEST_PARTS:
            return Hand(word)
        return counting_rule(word, self.take_parts(FEWEST_PARTS[word]))

    def take_end(self):
        """Makes sure that nothing is left to be read."""
        if self.at < len(self.signs):
            raise NoRule(self.at)


def read(roll, text):
    """The rule over the roll whose text it is; refuses with NoRule."""
    reading = Reading(roll, text)
    rule = reading.take_rule()
    reading.take_end()
    return rule
