"""The errors of the package: each stands directly under DoorError and keeps what it tells of."""


class DoorError(ValueError):
    """What all errors of this package are derived from."""


class InvalidNumber(DoorError):
    """Not a number as it has to be here."""

    def __init__(self, value=None):
        self.value = value


class InvalidRoom(DoorError):
    """Not a room of the level."""

    def __init__(self, value=None):
        self.value = value


class InvalidLights(DoorError):
    """Not an ascending list of rooms."""

    def __init__(self, value=None):
        self.value = value


class InvalidLevel(DoorError):
    """Not a level as it has to be here."""

    def __init__(self, value=None):
        self.value = value


class InvalidPresses(DoorError):
    """Not presses as they have to be here."""

    def __init__(self, value=None):
        self.value = value


class InvalidHistory(DoorError):
    """Not a history as it has to be here."""

    def __init__(self, value=None):
        self.value = value


class InvalidRuns(DoorError):
    """Not runs of the level."""

    def __init__(self, value=None):
        self.value = value


class InvalidTable(DoorError):
    """Not a table of the level."""

    def __init__(self, value=None):
        self.value = value


class InvalidLetters(DoorError):
    """Not letters of the level."""

    def __init__(self, value=None):
        self.value = value


class InvalidHouse(DoorError):
    """Not a house."""

    def __init__(self, value=None):
        self.value = value


class InvalidWalk(DoorError):
    """Not a walk as it has to be here."""

    def __init__(self, value=None):
        self.value = value


class InvalidWalks(DoorError):
    """Not walks of the house."""

    def __init__(self, value=None):
        self.value = value


class InvalidLayers(DoorError):
    """Not layers of the level."""

    def __init__(self, value=None):
        self.value = value


class InvalidText(DoorError):
    """Not a text as it has to be here."""

    def __init__(self, value=None):
        self.value = value


class InvalidDeed(DoorError):
    """Not a deed that can be done now."""

    def __init__(self, value=None):
        self.value = value


class Unlike(DoorError):
    """Two levels have not as many rooms."""

    def __init__(self, value=None):
        self.value = value


class TooMany(DoorError):
    """More than a point lets be made."""

    def __init__(self, value=None):
        self.value = value


class NothingToUndo(DoorError):
    """No deed is left to take back."""


class NothingToRedo(DoorError):
    """No deed is left to do again."""
