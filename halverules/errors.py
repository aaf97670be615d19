"""All errors of the program.

No message tells the value that is not valid: it may be too large to be written.
"""


class InputError(ValueError):
    """An argument is not valid."""


class InvalidNumber(InputError):
    """This is not one of the integers that are valid here."""

    def __init__(self, number):
        InputError.__init__(self, "no valid number")
        self.number = number


class InvalidName(InputError):
    """This is not a name."""

    def __init__(self, name):
        InputError.__init__(self, "no valid name")
        self.name = name


class InvalidRule(InputError):
    """These are not the rows of a rule."""

    def __init__(self, index):
        InputError.__init__(self, "no valid rows of a rule")
        self.index = index


class NotFitting(InputError):
    """The first value of this line is another one by its even row."""

    def __init__(self, index):
        InputError.__init__(self, "a line does not fit its first value")
        self.index = index


class InvalidValues(InputError):
    """These are not values that are valid here."""

    def __init__(self, index):
        InputError.__init__(self, "no valid values")
        self.index = index


class InvalidDeeds(InputError):
    """These are not deeds."""

    def __init__(self, index):
        InputError.__init__(self, "no valid deeds")
        self.index = index


class InvalidText(InputError):
    """This is not a text that is valid here."""

    def __init__(self, text):
        InputError.__init__(self, "no valid text")
        self.text = text


class InvalidCommand(InputError):
    """This is not a line for a console."""

    def __init__(self, command):
        InputError.__init__(self, "no valid command")
        self.command = command


class NotAFunction(InputError):
    """This is not a function told by halves."""

    def __init__(self, value):
        InputError.__init__(self, "no function told by halves")
        self.value = value


class StateError(LookupError):
    """What is asked for cannot be had as things are."""


class UnknownName(StateError):
    """No function is kept under this name."""

    def __init__(self, name):
        StateError.__init__(self, "no function has this name")
        self.name = name


class Refused(StateError):
    """The equation with this index stands against it."""

    def __init__(self, index):
        StateError.__init__(self, "an equation stands against it")
        self.index = index


class Parted(StateError):
    """At this number, and at no lesser one, two functions differ."""

    def __init__(self, number):
        StateError.__init__(self, "the functions differ")
        self.number = number


class Busy(StateError):
    """Another deed is being done."""


class NothingToUndo(StateError):
    """So many deeds have not been done."""


class NoMember(StateError):
    """No member has this index."""

    def __init__(self, index):
        StateError.__init__(self, "no member has this index")
        self.index = index


class LimitError(ArithmeticError):
    """The result is too large for this program."""


class TooMany(LimitError):
    """A rank would be too great."""


class TooManyStates(LimitError):
    """A set would have too many classes."""
