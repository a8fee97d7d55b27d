"""The fault at which an expression or a row stops in one world."""


class Fault(Exception):
    """A fault, with its word."""

    def __init__(self, word):
        super().__init__("an expression or a row has a fault")
        self.reason = word
