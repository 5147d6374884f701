"""Streams of sounds: plans that fit, and the bits that tell a sound with its plan, written, read and mended."""

from wholesound.arguments import check_bits, check_depth, check_within, is_bits
from wholesound.blocks import Bench, OPENING_BITS, bench_for, bits_of_block, fitting_sizes, mixed_rows
from wholesound.courses import Course, HEAD_BITS, block_read, course_of, head_bits, opening_read, with_one_turned
from wholesound.errors import InvalidDepth, InvalidPlan, InvalidStream
from wholesound.settings import check_settings
from wholesound.sounds import GREATEST_DEPTH, MOST_SAMPLES, Sound


def fits(settings, sound, plan):
    """Whether a value is a plan that fits a sound."""
    return fitting_sizes(bench_for(settings, sound), sound, plan) is not None


def checked_sizes(bench, sound, plan):
    """The sizes of the blocks of a plan; refused is what does not fit the sound."""
    sizes = fitting_sizes(bench, sound, plan)
    if sizes is None:
        raise InvalidPlan(plan)
    return sizes


def write(settings, sound, plan):
    """The stream of a sound with a plan."""
    bench = bench_for(settings, sound)
    checked_sizes(bench, sound, plan)
    ways, low = sound.ways(), 0
    parts = [head_bits(sound.depth(), len(ways), sound.many())]
    for block in plan:
        parts.append(bits_of_block(bench, low, block, mixed_rows(bench, block[1], ways, low, low + block[0])))
        low += block[0]
    return "".join(parts)


def sizes(settings, sound, plan):
    """How many bits the head of a stream and each of its blocks have."""
    return [HEAD_BITS] + checked_sizes(bench_for(settings, sound), sound, plan)


def whole_course(settings, bits):
    """The course of a stream; refused is what is none."""
    check_settings(settings)
    if not is_bits(bits):
        raise InvalidStream(bits)
    course = course_of(settings, bits)
    if not course.is_told():
        raise InvalidStream(bits)
    return course


def rows_of(settings, bits):
    """The bits of the head and of each block of a stream."""
    ends = whole_course(settings, bits).ends()
    return [bits[low:high] for low, high in zip([0] + ends[:-1], ends)]


def sound_of(course):
    """The sound that a course tells so far."""
    return Sound(course.bench().depth(), course.ways())


def read(settings, bits):
    """The sound and the plan of a stream."""
    course = whole_course(settings, bits)
    return (sound_of(course), course.plan())


def mended(settings, bits):
    """The stream that differs from bits at one place at most, or None."""
    check_settings(settings)
    check_bits(bits)
    course = course_of(settings, bits)
    if course.is_told():
        return bits
    turned = with_one_turned(course, bits)
    return turned if turned is not None and course_of(settings, turned).is_told() else None


def wrong_at(settings, bits):
    """How many bits there are up to the end of the first wrong part, or None."""
    check_settings(settings)
    check_bits(bits)
    return course_of(settings, bits).wrong()


def begun(settings, bits):
    """The sound and the plan of the blocks that are whole and right, and the place behind them; or None."""
    check_settings(settings)
    check_bits(bits)
    course = course_of(settings, bits)
    return None if course.bench() is None else (sound_of(course), course.plan(), course.place())


def block_bits(settings, sound, first, block):
    """The bits of a block that has just the samples of a sound, the first of them with a number."""
    bench = bench_for(settings, sound)
    check_within(first, 0, MOST_SAMPLES - sound.many())
    if fitting_sizes(bench, sound, [block]) is None:
        raise InvalidPlan(block)
    return bits_of_block(bench, first, block, mixed_rows(bench, block[1], sound.ways(), 0, sound.many()))


def block_at(settings, depth, bits, place):
    """The first sample, the block, its sound and the place behind it, if a block stands at a place; or None."""
    check_settings(settings)
    check_depth(depth, GREATEST_DEPTH)
    bench = Bench(settings, depth)
    if not bench.reached():
        raise InvalidDepth(depth)
    check_bits(bits)
    check_within(place, 0, len(bits))
    opening = opening_read(bench, bits[place:place + OPENING_BITS])
    if opening is None:
        return None
    first, length, mixer, size = opening
    if first + length > MOST_SAMPLES or place + size > len(bits):
        return None
    told = block_read(bench, length, mixer, bits[place:place + size])
    return None if told is None else (first, told[0], Sound(depth, told[1]), place + size)


class Reader:
    """Reads a stream as it comes, in pieces."""

    def __init__(self, settings):
        check_settings(settings)
        self._course = Course(settings)

    def feed(self, bits):
        """Take more bits: for each way the samples of the blocks that came to their end."""
        check_bits(bits)
        before = self._course.many()
        self._course.take(bits)
        return [way[before:] for way in self._course.ways()]

    def place(self):
        """The place behind the last whole right block or, without one, the head."""
        return self._course.place()

    def many(self):
        """The number of samples of each way told so far."""
        return self._course.many()

    def wrong(self):
        """The place behind the first wrong part, or None."""
        return self._course.wrong()

    def done(self):
        """Whether all samples are told and nothing is wrong."""
        return self._course.is_told()
