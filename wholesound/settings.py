"""What a writer may choose from: lengths of blocks, mixers, guessers, and how often a row is cut."""

from wholesound.arguments import check_depth, check_within, is_within
from wholesound.errors import InvalidGuesser, InvalidList, InvalidMixer, InvalidSettings
from wholesound.guessers import Guesser
from wholesound.mixers import Mixer
from wholesound.mixing import enough
from wholesound.sounds import GREATEST_DEPTH, MOST_SAMPLES

MOST_LENGTHS = 6
MOST_MIXERS = 8
MOST_GUESSERS = 16
MOST_PARTS = 4


class Settings:
    """Lengths, mixers of as many ways, guessers, and the greatest exponent of the number of parts of a row."""

    def __init__(self, lengths, mixers, guessers, parts):
        if not is_lengths(lengths):
            raise InvalidList(lengths)
        check_all_mixers(mixers)
        check_all_guessers(guessers)
        check_within(parts, 0, MOST_PARTS)
        self._lengths = list(lengths)
        self._mixers = list(mixers)
        self._guessers = list(guessers)
        self._parts = parts

    def lengths(self):
        """The lengths that a block may have."""
        return list(self._lengths)

    def mixers(self):
        """The mixers, told by their numbers in blocks."""
        return list(self._mixers)

    def guessers(self):
        """The guessers, told by their numbers in kinds."""
        return list(self._guessers)

    def parts(self):
        """The greatest exponent of 2 that tells into how many parts a row is cut."""
        return self._parts

    def ways(self):
        """The number of ways."""
        return self._mixers[0].wide()

    def __eq__(self, other):
        return (isinstance(other, Settings) and self._lengths == other._lengths and self._mixers == other._mixers
                and self._guessers == other._guessers and self._parts == other._parts)


def is_lengths(value):
    """Whether a value is a list of different ascending lengths, neither none nor too many."""
    if not isinstance(value, list) or not 1 <= len(value) <= MOST_LENGTHS:
        return False
    last = 0
    for length in value:
        if not is_within(length, last + 1, MOST_SAMPLES):
            return False
        last = length
    return True


def check_all_mixers(mixers):
    """Refuse what is no list of mixers, or the first item that is none or has another number of ways."""
    if not isinstance(mixers, list) or not 1 <= len(mixers) <= MOST_MIXERS:
        raise InvalidList(mixers)
    for mixer in mixers:
        if not isinstance(mixer, Mixer) or mixer.wide() != mixers[0].wide():
            raise InvalidMixer(mixer)


def check_all_guessers(guessers):
    """Refuse what is no list of guessers, or the first item that is none."""
    if not isinstance(guessers, list) or len(guessers) > MOST_GUESSERS:
        raise InvalidList(guessers)
    for guesser in guessers:
        if not isinstance(guesser, Guesser):
            raise InvalidGuesser(guesser)


def check_settings(settings):
    """Refuse what are no settings."""
    if not isinstance(settings, Settings):
        raise InvalidSettings(settings)


def wide(settings, depth):
    """For each mixer the depths, one a way, of which all is that it makes of samples of a depth."""
    check_settings(settings)
    check_depth(depth, GREATEST_DEPTH)
    return wide_of(settings, depth)


def wide_of(settings, depth):
    """What `wide` tells of settings and a depth that are looked at already."""
    return [enough(mixer, depth) for mixer in settings.mixers()]
