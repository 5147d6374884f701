"""Streams by the words of the document, written apart from the program: blocks, plans and bits, small and slow."""

import itertools

from wholesound.guessers import rests
from wholesound.mixers import mixed
from wholesound.settings import wide


def number_word(number, many):
    return bin(number)[2:].rjust(many, "0") if many else ""


def folded(number):
    return 2 * number if number >= 0 else -2 * number - 1


def word_of(bits, width, low):
    """The word of a row by long division of the row with noughts behind it."""
    number, whole = int("0" + bits, 2) << width, 1 << width | low
    for at in range(number.bit_length() - 1, width - 1, -1):
        if number >> at & 1:
            number ^= whole << (at - width)
    return number_word(number, width)


def sealed_by(bits, width, low):
    return bits + word_of(bits, width, low)


def mixed_row(settings, sound, first, length, mixer, way):
    ways = sound.ways()
    return [mixed(settings.mixers()[mixer], [row[at] for row in ways])[way] for at in range(first, first + length)]


def fold_word(fold, width):
    return "1" * (fold // 2 ** width) + "0" + number_word(fold % 2 ** width, width)


def way_word(settings, bits, row, kind):
    """The bits of a way, None if the kind does not go."""
    if kind[0] == "still":
        return "00" + number_word(folded(row[0]), bits) if len(set(row)) == 1 else None
    if kind[0] == "plain":
        return "01" + "".join(number_word(folded(sample), bits) for sample in row)
    _, at, low, widths = kind
    if any(sample % 2 ** low for sample in row):
        return None
    left = rests(settings.guessers()[at], bits - low, [sample // 2 ** low for sample in row])
    word = "10" + number_word(at, 4) + number_word(low, 3) + number_word([1, 2, 4, 8, 16].index(len(widths)), 3)
    word += "".join(number_word(width, 5) for width in widths)
    part = len(row) // len(widths)
    return word + "".join(fold_word(folded(rest), widths[place // part]) for place, rest in enumerate(left))


def block_word(settings, sound, first, block, told_first=None):
    """The bits of a block, None if it does not go."""
    length, mixer, kinds = block
    wides = wide(settings, sound.depth())[mixer]
    words = [way_word(settings, wides[way], mixed_row(settings, sound, first, length, mixer, way), kind)
             for way, kind in enumerate(kinds)]
    if None in words:
        return None
    size = 67 + sum(len(word) for word in words)
    if size > 65535:
        return None
    begin = number_word(first if told_first is None else told_first, 12) + number_word(length, 12)
    opening = sealed_by(begin + number_word(mixer, 3) + number_word(size, 16), 8, 29)
    return sealed_by(opening + "".join(words), 16, 4107)


def head_word(sound):
    return sealed_by(number_word(sound.depth() - 1, 5) + number_word(len(sound.ways()) - 1, 2)
                     + number_word(sound.many(), 12), 8, 29)


def stream_word(settings, sound, plan):
    words, first = [head_word(sound)], 0
    for block in plan:
        words.append(block_word(settings, sound, first, block))
        first += block[0]
    return "".join(words)


def kinds_of(settings, bits, length):
    """All kinds that may stand at a way of so many bits, in the order of [81]."""
    kinds = [("still",), ("plain",)]
    for at in range(len(settings.guessers())):
        for low in range(min(8, bits)):
            for parts in (1, 2, 4, 8, 16):
                if parts <= 2 ** settings.parts() and length % parts == 0:
                    widths = range(min(31, bits - low) + 1)
                    kinds += [("guessed", at, low, list(row)) for row in itertools.product(widths, repeat=parts)]
    return kinds


def blocks_of(settings, sound, first, length):
    """All blocks of a length that go from a place on, in order, each with its size."""
    found = []
    for mixer, wides in enumerate(wide(settings, sound.depth())):
        rows = [mixed_row(settings, sound, first, length, mixer, way) for way in range(settings.ways())]
        told = []
        for bits, row in zip(wides, rows):
            words = [(kind, way_word(settings, bits, row, kind)) for kind in kinds_of(settings, bits, length)]
            told.append([(kind, len(word)) for kind, word in words if word is not None])
        for kinds in itertools.product(*told):
            size = 67 + sum(many for _, many in kinds)
            if size <= 65535:
                found.append((size, (length, mixer, [kind for kind, _ in kinds])))
    return found


def plans_of(settings, sound, lengths=None):
    """All plans of blocks of some lengths, those of the settings if none are told, in order, with their sizes."""
    lengths = settings.lengths() if lengths is None else lengths
    found = {sound.many(): [(0, [])]}
    for first in range(sound.many() - 1, -1, -1):
        found[first] = []
        for length in lengths:
            if first + length <= sound.many():
                for size, block in blocks_of(settings, sound, first, length):
                    found[first] += [(size + more, [block] + plan) for more, plan in found[first + length]]
    return [(27 + size, plan) for size, plan in found[0]]
