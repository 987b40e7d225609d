"""The refusals of the program, one class for each."""


class SignError(ValueError):
    """Any refusal."""


class NoRoll(SignError):
    """A list of names makes no roll."""


class NoHand(SignError):
    """A text is no name of the roll."""


class NoGroup(SignError):
    """A number is no group of the roll's hands."""


class NoRule(SignError):
    """A text is no rule's; at tells how many signs of it could still begin one."""

    def __init__(self, at):
        SignError.__init__(self, f"no rule can be read beyond the first {at} signs")
        self.at = at


class NoDay(SignError):
    """A number is no day, or a last day comes before the first one."""


class NoDeputy(SignError):
    """A hand can't be its own deputy."""


class NoEntry(SignError):
    """A number is no entry's, or that of a struck one."""


class Unruled(SignError):
    """A day has no rule."""
