"""Values that fit nowhere, and helpers to look at results."""

from wholesound.checks import Check
from wholesound.edits import Edit
from wholesound.guessers import Guesser
from wholesound.live import Listener, Recorder
from wholesound.mixers import Mixer
from wholesound.settings import Settings
from wholesound.sounds import Sound
from wholesound.streams import Reader, write
from wholesound.tapes import Tape

OWN = (Sound, Guesser, Mixer, Check, Settings, Reader, Edit, Tape, Recorder, Listener)
SMALL = Settings([1], [Mixer(1, [])], [], 0)
TAPE = Tape(SMALL, write(SMALL, Sound(4, [[1]]), [(1, 0, [("plain",)])]))
RECORDER, LISTENER = Recorder(SMALL, 4, 2, "100"), Listener(SMALL, 4, "100")


def deep(levels):
    value = []
    for _ in range(levels):
        value = [value]
    return value


def things():
    """Any values that are neither numbers, nor lists but the deep one, nor strings of bits."""
    return [None, True, False, "x", "12", (), (1, 2), {}, {0: 1}, {"a": []}, deep(29),
            Sound(4, [[1, 2]]), Guesser([2, -1], 0), Mixer(1, []), Check(3, 3), Settings([1], [Mixer(1, [])], [], 0),
            Edit([2], 1, [("keep", 0, 0, 2)]), TAPE, RECORDER, LISTENER]


def no_numbers():
    return things() + ["", "1", [], [1], (1,), [[]], ("turn", 0)]


def numbers_but(low, high):
    """What is no whole number from low to high (None: no bound)."""
    more = [] if low is None else [low - 1, low - 10 ** 29]
    return no_numbers() + more + ([] if high is None else [high + 1, high + 10 ** 29])


def no_lists():
    """What is no list of numbers, whatever their bounds."""
    return [None, True, False, 0, 3, "", "01", (), (1, 2), {}, {0: 1}, deep(29), [None], [True], [1, False], ["1"],
            [[1]], [1, (2,)], [1, None, 2], [1, 2, True], [0, 1, "0"], [Guesser([], 0)], [[1, 2]], [()],
            Sound(4, [[1, 2]]), Guesser([2, -1], 0), Mixer(1, []), Check(3, 3), [Check(3, 3)]]


def no_samples(depth):
    low, high = -2 ** (depth - 1), 2 ** (depth - 1) - 1
    return no_lists() + [[low - 1], [high + 1], [0, low, high, high + 1], [low - 1, 0], [10 ** 29]]


def no_objects(kind):
    """What is no object of a class."""
    return [value for value in things() + [0, 1, [], [1], "", deep(3)] if not isinstance(value, kind)]


def no_bits():
    return [None, True, 0, 1, 10, "2", "01a", " ", "0 1", "0\n", ["0", "1"], ("0",), [], {}, Guesser([], 0), "-1", "0b1"]


def frozen(value):
    """The value as nested tuples that show all that is in it, objects and kinds included."""
    if isinstance(value, Sound):
        return ("Sound", value.depth(), frozen(value.ways()))
    if isinstance(value, Guesser):
        return ("Guesser", frozen(value.weights()), value.shift())
    if isinstance(value, Mixer):
        return ("Mixer", value.wide(), frozen(value.steps()))
    if isinstance(value, Check):
        return ("Check", value.width, value.low)
    if isinstance(value, Settings):
        parts = [value.lengths(), value.mixers(), value.guessers(), value.parts()]
        return ("Settings",) + tuple(frozen(part) for part in parts)
    if isinstance(value, Reader):
        return ("Reader", value.place(), value.many(), value.wrong(), value.done())
    if isinstance(value, Edit):
        return ("Edit", frozen(value.lengths()), value.ways(), frozen(value.pieces()))
    if isinstance(value, Tape):
        parts = [value.bits(), value.log(), value.sources(), value.origin(), value.gone(), value.held()]
        return ("Tape",) + tuple(frozen(part) for part in parts)
    if isinstance(value, Recorder):
        parts = [value.many(), value.closed(), value.plan(), value.stream(), value.finished(), value.log()]
        return ("Recorder",) + tuple(frozen(part) for part in parts)
    if isinstance(value, Listener):
        return ("Listener", frozen(value.told()), value.many(), value.waiting())
    if isinstance(value, (list, tuple)):
        return (type(value).__name__,) + tuple(frozen(item) for item in value)
    if isinstance(value, dict):
        return ("dict",) + tuple((frozen(key), frozen(item)) for key, item in value.items())
    return (type(value).__name__, value)


def lists_within(value):
    """All list objects in a value, one by one."""
    found = []
    if isinstance(value, (list, tuple)):
        if isinstance(value, list):
            found.append(value)
        for item in value:
            found += lists_within(item)
    return found


def spoil(value):
    """Change all lists in a value."""
    for item in lists_within(value):
        item.append("spoilt")
        item.insert(0, None)


def plain(value):
    """Whether a result is made of what [2] lets results be made of."""
    if value is None or isinstance(value, OWN):
        return True
    if isinstance(value, (list, tuple)):
        return type(value) in (list, tuple) and all(plain(item) for item in value)
    return type(value) in (bool, int, str)


def swapped(value):
    """What stands for a value in one spot and is never as good: another kind of list, a Boolean, nothing."""
    if isinstance(value, bool) or value is None:
        return [False, 0.5, "", [value], deep(28)]
    if isinstance(value, int):
        return [True, False, None, str(value), [value], (value,), {value: value}, deep(28), Guesser([], 0)]
    if isinstance(value, str):
        return [None, True, "", value + " ", [value], (value,), Check(1, 1)]
    if isinstance(value, list):
        return [tuple(value), None, True, 0, {at: item for at, item in enumerate(value)}, value + [None], [value]]
    if isinstance(value, tuple):
        return [list(value), None, False, value + (None,), value[:-1], (value,)]
    return [None, True, 0, [value], "x"]


def bent(value):
    """The value with one spot in it swapped, for each spot."""
    found = swapped(value)
    if isinstance(value, (list, tuple)):
        for at, item in enumerate(value):
            for other in bent(item):
                items = list(value[:at]) + [other] + list(value[at + 1:])
                found.append(items if isinstance(value, list) else tuple(items))
    return found
