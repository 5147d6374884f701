"""Streams of sounds: plans that fit, and the bits that tell a sound with its plan, written, read and mended."""

from wholesound.arguments import check_bits, check_within, is_bits
from wholesound.blocks import bench_at, bench_for, bits_of_block, fitting_sizes, mixed_rows
from wholesound.courses import Course, HEAD_BITS, block_standing, course_of, head_bits, with_one_turned
from wholesound.errors import InvalidPlan, InvalidStream
from wholesound.settings import check_settings
from wholesound.sounds import MOST_SAMPLES, Sound


def fits(settings, sound, plan):
    """Whether a value is a plan that fits a sound."""
    return fitting_sizes(bench_for(settings, sound), sound, plan) is not None


def checked_sizes(bench, sound, plan):
    """The sizes of the blocks of a plan; refused is what does not fit the sound."""
    sizes = fitting_sizes(bench, sound, plan)
    if sizes is None:
        raise InvalidPlan(plan)
    return sizes


def write(settings, sound, plan):
    """The stream of a sound with a plan."""
    bench = bench_for(settings, sound)
    checked_sizes(bench, sound, plan)
    return stream_of(bench, sound, plan)


def stream_of(bench, sound, plan):
    """The stream of a sound with a plan that fits it."""
    ways, low = sound.ways(), 0
    parts = [head_bits(sound.depth(), len(ways), sound.many())]
    for block in plan:
        parts.append(bits_of_block(bench, low, block, mixed_rows(bench, block[1], ways, low, low + block[0])))
        low += block[0]
    return "".join(parts)


def sizes(settings, sound, plan):
    """How many bits the head of a stream and each of its blocks have."""
    return [HEAD_BITS] + checked_sizes(bench_for(settings, sound), sound, plan)


def whole_course(settings, bits):
    """The course of a stream; refused is what is none."""
    check_settings(settings)
    if not is_bits(bits):
        raise InvalidStream(bits)
    course = course_of(settings, bits)
    if not course.is_told():
        raise InvalidStream(bits)
    return course


def rows_of(settings, bits):
    """The bits of the head and of each block of a stream."""
    ends = whole_course(settings, bits).ends()
    return [bits[low:high] for low, high in zip([0] + ends[:-1], ends)]


def sound_of(course):
    """The sound that a course tells so far."""
    return Sound(course.bench().depth(), course.ways())


def read(settings, bits):
    """The sound and the plan of a stream."""
    course = whole_course(settings, bits)
    return (sound_of(course), course.plan())


def mended(settings, bits):
    """The stream that differs from bits at one place at most, or None."""
    check_settings(settings)
    check_bits(bits)
    course = course_of(settings, bits)
    if course.is_told():
        return bits
    turned = with_one_turned(course, bits)
    return turned if turned is not None and course_of(settings, turned).is_told() else None


def wrong_at(settings, bits):
    """How many bits there are up to the end of the first wrong part, or None."""
    check_settings(settings)
    check_bits(bits)
    return course_of(settings, bits).wrong()


def begun(settings, bits):
    """The sound and the plan of the blocks that are whole and right, and the place behind them; or None."""
    check_settings(settings)
    check_bits(bits)
    course = course_of(settings, bits)
    return None if course.bench() is None else (sound_of(course), course.plan(), course.place())


def block_bits(settings, sound, first, block):
    """The bits of a block that has just the samples of a sound, the first of them with a number."""
    bench = bench_for(settings, sound)
    check_within(first, 0, MOST_SAMPLES - sound.many())
    if fitting_sizes(bench, sound, [block]) is None:
        raise InvalidPlan(block)
    return bits_of_block(bench, first, block, mixed_rows(bench, block[1], sound.ways(), 0, sound.many()))


def block_at(settings, depth, bits, place):
    """The first sample, the block, its sound and the place behind it, if a block stands at a place; or None."""
    bench = bench_at(settings, depth)
    check_bits(bits)
    check_within(place, 0, len(bits))
    standing = block_standing(bench, bits, place)
    if standing is None:
        return None
    first, block, ways, end = standing
    return (first, block, Sound(depth, ways), end)


class Reader:
    """Reads a stream as it comes, in pieces."""

    def __init__(self, settings):
        check_settings(settings)
        self._course = Course(settings)

    def feed(self, bits):
        """Take more bits: for each way the samples of the blocks that came to their end."""
        check_bits(bits)
        before = self._course.many()
        self._course.take(bits)
        return [way[before:] for way in self._course.ways()]

    def place(self):
        """The place behind the last whole right block or, without one, the head."""
        return self._course.place()

    def many(self):
        """The number of samples of each way told so far."""
        return self._course.many()

    def wrong(self):
        """The place behind the first wrong part, or None."""
        return self._course.wrong()

    def done(self):
        """Whether all samples are told and nothing is wrong."""
        return self._course.is_told()
