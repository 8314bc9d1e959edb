"""The errors of the package: each keeps the values that it is made with."""


class FlowError(ValueError):
    """What all errors of the package are."""


class BadLine(FlowError):
    """A line of a text is not written as a desk reads it."""

    def __init__(self, number):
        self.number = number


class BadPart(FlowError):
    """A PART does not fit behind those ahead of it."""

    def __init__(self, place):
        self.place = place


class BadText(FlowError):
    """A piece of a text is not written as it should be."""

    def __init__(self, piece):
        self.piece = piece


class Known(FlowError):
    """A NAME is there already."""

    def __init__(self, name):
        self.name = name


class NoChannel(FlowError):
    """No channel has this NAME."""

    def __init__(self, name):
        self.name = name


class NoFit(FlowError):
    """No TABLE has what came out."""


class NoNet(FlowError):
    """No Net has this NAME."""

    def __init__(self, name):
        self.name = name


class NoNumber(FlowError):
    """There is nothing with this number."""

    def __init__(self, number):
        self.number = number


class NoOutlet(FlowError):
    """No outlet has this NAME."""

    def __init__(self, name):
        self.name = name


class NoPlace(FlowError):
    """There is no such PART at this place."""

    def __init__(self, number):
        self.number = number


class NothingDone(FlowError):
    """There is no deed to take back."""


class OtherOutlets(FlowError):
    """The outlets are other ones."""
