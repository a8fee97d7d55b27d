"""The errors of the package."""

# The messages never contain what was passed: a number may have more digits
# than Python turns into a text.


class HadnotError(ValueError):
    """The base class of the package's errors, but for UnknownName."""


class InvalidName(HadnotError):
    """A text that should be a name is none."""

    def __init__(self, name):
        super().__init__("this is not a name")
        self.name = name


class InvalidText(HadnotError):
    """A line of a text cannot stand there, or lines are missing."""

    def __init__(self, row):
        super().__init__("a line cannot stand there, or lines are missing")
        self.row = row


class InvalidDeed(HadnotError):
    """A deed has not one saying for each option of its choice."""

    def __init__(self, name):
        super().__init__("the deed has a wrong number of sayings")
        self.name = name


class NoRatio(HadnotError):
    """A ratio would have the bottom 0."""


class OtherChoices(HadnotError):
    """Two worths are over different choices."""


class Taken(HadnotError):
    """There is something with this name already."""

    def __init__(self, name):
        super().__init__("the name is taken")
        self.name = name


class Unready(HadnotError):
    """Something names what is not there."""

    def __init__(self, where, name):
        super().__init__("something that is named is not there")
        self.where = where
        self.name = name


class Opened(HadnotError):
    """A deed is opened."""

    def __init__(self, name):
        super().__init__("the deed is opened")
        self.name = name


class NotOpen(HadnotError):
    """A deed is not opened."""

    def __init__(self, name):
        super().__init__("the deed is not opened")
        self.name = name


class TooWide(HadnotError):
    """A worth has too many nodes, or a table too many keys."""

    def __init__(self, deed, row):
        super().__init__("there are too many nodes or keys")
        self.deed = deed
        self.row = row


class NotNumber(HadnotError):
    """Values are neither all numbers nor all truths."""


class Clash(HadnotError):
    """Two days differ in something that they have to share."""

    def __init__(self, name):
        super().__init__("two days do not agree")
        self.name = name


class InvalidCommand(HadnotError):
    """A text is none of the commands."""


class UnknownName(KeyError):
    """There is nothing with this name."""

    def __init__(self, name):
        super().__init__("there is nothing with this name")
        self.name = name
