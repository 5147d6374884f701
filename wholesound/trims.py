"""Trims: ways taken out of sounds, samples doubled and halved, and still stretches cut short."""

from wholesound.arguments import check_count, check_from, check_within, is_within
from wholesound.edits import edit_of
from wholesound.errors import InvalidItem, InvalidList, NotDivisible
from wholesound.sounds import GREATEST_DEPTH, MOST_WAYS, Sound, check_sound


def ways_of(sound, which):
    """The sound of the ways with some numbers, in this order."""
    check_sound(sound)
    if not isinstance(which, list) or not 1 <= len(which) <= MOST_WAYS:
        raise InvalidList(which)
    ways = sound.ways()
    for at in which:
        if not is_within(at, 0, len(ways) - 1):
            raise InvalidItem(at)
    return Sound(sound.depth(), [ways[at] for at in which])


def raised(sound, many):
    """The sound with each sample doubled so many times, and as many bits more."""
    check_sound(sound)
    check_within(many, 0, GREATEST_DEPTH - sound.depth())
    return Sound(sound.depth() + many, [[sample << many for sample in way] for way in sound.ways()])


def lowered(sound, many):
    """The sound of which this one is raised."""
    check_sound(sound)
    check_within(many, 0, sound.depth() - 1)
    ways, below = sound.ways(), (1 << many) - 1
    for place in range(sound.many()):
        if any([way[place] & below != 0 for way in ways]):
            raise NotDivisible(place)
    return Sound(sound.depth() - many, [[sample >> many for sample in way] for way in ways])


def stills(sound, loud, many):
    """The stretches of at least so many moments without a loud sample, as long as can be: first place and number."""
    check_sound(sound)
    check_count(loud)
    check_from(many, 1)
    return stills_of(sound, loud, many)


def stills_of(sound, loud, many):
    """What `stills` tells of arguments that are looked at already."""
    ways, found, first = sound.ways(), [], 0
    for place in range(sound.many() + 1):
        if place == sound.many() or not all([-loud <= way[place] <= loud for way in ways]):
            if place - first >= many:
                found.append((first, place - first))
            first = place + 1
    return found


def trimmed(sound, loud, many, left):
    """The edit that leaves the first moments, so many, of each still stretch, and all else."""
    check_sound(sound)
    check_count(loud)
    check_from(many, 1)
    check_within(left, 0, many - 1)
    pieces, begin = [], 0
    for first, count in stills_of(sound, loud, many):
        if first + left > begin:
            pieces.append(("keep", 0, begin, first + left - begin))
        begin = first + count
    if begin < sound.many():
        pieces.append(("keep", 0, begin, sound.many() - begin))
    return edit_of([sound.many()], len(sound.ways()), pieces)
