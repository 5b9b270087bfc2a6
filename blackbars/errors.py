"""The errors of the program; each one keeps the very value that it was made with."""


class BarError(ValueError):
    """Any error of the program."""


class BadWord(BarError):
    """A value is not a word."""

    def __init__(self, value):
        self.value = value


class BadLog(BarError):
    """A value is not a log, or not a line of one."""

    def __init__(self, value):
        self.value = value


class BadShape(BarError):
    """A value is not a shape."""

    def __init__(self, value):
        self.value = value


class BadRule(BarError):
    """A value is not a rule."""

    def __init__(self, value):
        self.value = value


class BadView(BarError):
    """A value is not a view."""

    def __init__(self, value):
        self.value = value


class BadSecret(BarError):
    """A value is not a secret."""

    def __init__(self, value):
        self.value = value


class BadCase(BarError):
    """Views and secrets are too few, too many, or do not go together."""

    def __init__(self, value):
        self.value = value


class BadPlace(BarError):
    """A value is not a place that is there."""

    def __init__(self, value):
        self.value = value


class BadNumber(BarError):
    """A value is not a number that may stand here."""

    def __init__(self, value):
        self.value = value


class BadSighting(BarError):
    """A value is not a sighting."""

    def __init__(self, value):
        self.value = value


class BadText(BarError):
    """A value is not the text of what is to be read."""

    def __init__(self, value):
        self.value = value


class BadCommand(BarError):
    """A value is not a command of the console."""

    def __init__(self, command):
        self.command = command


class Shown(BarError):
    """Two logs differ in secrets alone and look different."""

    def __init__(self, pair):
        self.pair = pair


class TooPlain(BarError):
    """A secret would be hidden among too few words."""

    def __init__(self, pair):
        self.pair = pair


class NothingToUndo(BarError):
    """So many deeds cannot be taken back."""

    def __init__(self, many):
        self.many = many
