"""The base of all errors of the package, and the error that several modules raise."""


class MailError(ValueError):
    """The base of all errors of the package."""


class Clash(MailError):
    """A letter meets an unequal one with its number."""

    def __init__(self, number):
        super().__init__("a letter meets an unequal one with its number")
        self.number = number
