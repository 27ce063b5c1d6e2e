"""All that the program refuses, and all that it says there isn't."""


class WheelError(ValueError):
    """What was handed in is not as told."""


class BadMachine(WheelError):
    """No MACHINE; place tells which part of it is none."""

    def __init__(self, place=None):
        super().__init__(f"no machine: {place!r}")
        self.place = place


class BadLoad(WheelError):
    """No LOAD of the MACHINE; place tells where it isn't."""

    def __init__(self, place=None):
        super().__init__(f"no load of this machine: {place!r}")
        self.place = place


class BadSpot(WheelError):
    """No SPOT that will do; place tells which of several."""

    def __init__(self, place=None):
        super().__init__(f"no such spot: {place!r}")
        self.place = place


class BadRule(WheelError):
    """No POLYNOMIAL that will do; number tells which thing of it."""

    def __init__(self, number=None):
        super().__init__(f"no polynomial: {number!r}")
        self.number = number


class BadReadings(WheelError):
    """No readings; number tells which of them is none."""

    def __init__(self, number=None):
        super().__init__(f"no readings: {number!r}")
        self.number = number


class BadPaper(WheelError):
    """A paper that doesn't show what it should; place tells where."""

    def __init__(self, place=None):
        super().__init__(f"a bad paper: {place!r}")
        self.place = place


class OutOfPlace(WheelError):
    """A number or thing that has no place here."""


class TooGreat(WheelError):
    """More than a MACHINE can have."""


class MissError(LookupError):
    """What was asked for isn't there."""


class Never(MissError):
    """There is none, whatever one does."""


class NoTouch(MissError):
    """There is no such TOUCH."""
