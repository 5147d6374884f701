"""The errors of the package: each wrong argument or item is told by the field of its error."""


class SoundError(ValueError):
    """Any error of this package."""


class InvalidNumber(SoundError):
    """An argument that has to be a whole number within bounds and is none."""

    def __init__(self, value=None):
        self.value = value


class InvalidDepth(SoundError):
    """An argument that has to be a depth and is none."""

    def __init__(self, value=None):
        self.value = value


class InvalidList(SoundError):
    """An argument that has to be a list of some length and is none."""

    def __init__(self, value=None):
        self.value = value


class InvalidItem(SoundError):
    """An item that does not fit."""

    def __init__(self, value=None):
        self.value = value


class InvalidRow(SoundError):
    """An argument that has to be a row and is none, or that does not fit."""

    def __init__(self, value=None):
        self.value = value


class InvalidSound(SoundError):
    """An argument that has to be a sound and is none."""

    def __init__(self, value=None):
        self.value = value


class InvalidGuesser(SoundError):
    """An argument that has to be a guesser and is none, or that does not fit."""

    def __init__(self, value=None):
        self.value = value


class InvalidMixer(SoundError):
    """An argument that has to be a mixer and is none, or that does not fit."""

    def __init__(self, value=None):
        self.value = value


class InvalidCheck(SoundError):
    """An argument that has to be a check and is none, or that does not fit."""

    def __init__(self, value=None):
        self.value = value


class InvalidSettings(SoundError):
    """An argument that has to be settings and is none, or that does not fit."""

    def __init__(self, value=None):
        self.value = value


class InvalidEdit(SoundError):
    """An argument that has to be an edit and is none, or that does not fit."""

    def __init__(self, value=None):
        self.value = value


class InvalidWeights(SoundError):
    """An argument that has to be weights and is none."""

    def __init__(self, value=None):
        self.value = value


class InvalidSamples(SoundError):
    """An argument that has to be samples and is none."""

    def __init__(self, value=None):
        self.value = value


class InvalidBoxes(SoundError):
    """An argument that has to be boxes and is none."""

    def __init__(self, value=None):
        self.value = value


class InvalidMatrix(SoundError):
    """An argument that has to be a matrix and is none."""

    def __init__(self, value=None):
        self.value = value


class InvalidFolds(SoundError):
    """An argument that has to be folds and is none."""

    def __init__(self, value=None):
        self.value = value


class InvalidWidth(SoundError):
    """An argument that has to be a width and is none."""

    def __init__(self, value=None):
        self.value = value


class InvalidCounts(SoundError):
    """An argument that has to be counts and is none."""

    def __init__(self, value=None):
        self.value = value


class InvalidBits(SoundError):
    """An argument that has to be bits and is none."""

    def __init__(self, value=None):
        self.value = value


class InvalidPlaces(SoundError):
    """An argument that has to be places and is none."""

    def __init__(self, value=None):
        self.value = value


class InvalidPlan(SoundError):
    """An argument that has to be a plan and is none."""

    def __init__(self, value=None):
        self.value = value


class InvalidStream(SoundError):
    """An argument that has to be a stream and is none."""

    def __init__(self, value=None):
        self.value = value


class InvalidMark(SoundError):
    """An argument that has to be a mark and is none."""

    def __init__(self, value=None):
        self.value = value


class InvalidPieces(SoundError):
    """An argument that has to be pieces and is none."""

    def __init__(self, value=None):
        self.value = value


class InvalidFound(SoundError):
    """An argument that has to be found blocks and is none."""

    def __init__(self, value=None):
        self.value = value


class InvalidStarts(SoundError):
    """An argument that has to be starts and is none."""

    def __init__(self, value=None):
        self.value = value


class InvalidText(SoundError):
    """An argument that has to be a text and is none."""

    def __init__(self, value=None):
        self.value = value


class InvalidPiece(SoundError):
    """An item of an edit that is no piece."""

    def __init__(self, value=None):
        self.value = value


class Unlike(SoundError):
    """An argument that does not go with one ahead of it."""

    def __init__(self, value=None):
        self.value = value


class NotDivisible(SoundError):
    """A sample that cannot be halved so often, told by its place."""

    def __init__(self, place=None):
        self.place = place


class NothingToUndo(SoundError):
    """There is no deed that could be undone."""
