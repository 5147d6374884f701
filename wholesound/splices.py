"""Splices: streams that are read, and streams of what edits tell of their sounds with the blocks that stay whole."""

from wholesound.blocks import MOST_BITS, size_of
from wholesound.courses import HEAD_BITS
from wholesound.cuts import kept_of
from wholesound.edits import told
from wholesound.leastkinds import all_rows, least_block_of
from wholesound.plans import least_plan_by
from wholesound.sounds import part
from wholesound.streams import sound_of, stream_of, whole_course


class Source:
    """A stream with what it tells: its sound, its plan, and the bench that blocks like its own are written by."""

    def __init__(self, bits, bench, sound, plan):
        self._bits = bits
        self._bench = bench
        self._sound = sound
        self._plan = plan

    def bits(self):
        """The stream itself."""
        return self._bits

    def bench(self):
        """What blocks of this depth are written by."""
        return self._bench

    def sound(self):
        """The sound that it tells."""
        return self._sound

    def plan(self):
        """The plan that it tells, not a copy: it is only read."""
        return self._plan

    def many(self):
        """The number of moments."""
        return self._sound.many()

    def cuts(self):
        """The places at which its blocks begin and end."""
        places = [0]
        for block in self._plan:
            places.append(places[-1] + block[0])
        return places


def source_of(settings, stream):
    """A stream with what it tells; refused are what are no settings, and what is no stream of them."""
    course = whole_course(settings, stream)
    return Source(stream, course.bench(), sound_of(course), course.plan())


def kept_from(sources, edit):
    """Where an edit keeps blocks of sources: tuples of the place, the block, and its source and number, in order."""
    plans = [source.plan() for source in sources]
    return [(at, plans[source][number], source, number)
            for at, source, number in kept_of(edit, [source.cuts() for source in sources])]


def splice_of(settings, sources, edit):
    """What an edit tells of sources, as a source: kept blocks, and least plans of what is between; or None."""
    bench, sound = sources[0].bench(), told(edit, [source.sound() for source in sources])
    plan, place = [], 0
    for at, block, _, _ in kept_from(sources, edit):
        gap = gap_plan(settings, bench, sound, place, at)
        if gap is None:
            return None
        plan += gap + [block]
        place = at + block[0]
    gap = gap_plan(settings, bench, sound, place, sound.many())
    if gap is None:
        return None
    return Source(stream_of(bench, sound, plan + gap), bench, sound, plan + gap)


def gap_plan(settings, bench, sound, low, high):
    """The least plan of the moments from `low` on that are below `high`, or None."""
    if low == high:
        return []
    least = least_plan_by(settings, bench, part(sound, low, high))
    return None if least is None else least[1]


def kept_ahead(sources, edit):
    """The blocks that an edit keeps, by their places."""
    return {at: block for at, block, _, _ in kept_from(sources, edit)}


def steps_from(settings, bench, rows, kept, place):
    """The blocks that may stand at a place with the kept one, if any, each with its size."""
    many, steps = len(rows[0][0]), []
    for length in settings.lengths():
        if place + length <= many:
            steps.append(least_block_of(bench, rows, place, length))
    if place in kept:
        block = kept[place]
        within = [row[place:place + block[0]] for row in rows[block[1]]]
        steps.append((size_of(bench, block, within), block))
    return [step for step in steps if step[0] <= MOST_BITS]


def least_splice(settings, sources, edit):
    """What is told, and for each place of it the least size of what is ahead with the last block there; or None."""
    bench, sound = sources[0].bench(), told(edit, [source.sound() for source in sources])
    rows, kept = all_rows(bench, sound), kept_ahead(sources, edit)
    best = [(HEAD_BITS, None)] + [None] * sound.many()
    for place in range(sound.many()):
        if best[place] is not None:
            for size, block in steps_from(settings, bench, rows, kept, place):
                end, price = place + block[0], best[place][0] + size
                if best[end] is None or price < best[end][0]:
                    best[end] = (price, block)
    return (sound, best)


def prices_in(best):
    """The least size of what is ahead of each place, or None."""
    return [None if told_there is None else told_there[0] for told_there in best]


def plan_in(best):
    """The blocks with which the least size comes to the last place."""
    plan, place = [], len(best) - 1
    while place > 0:
        block = best[place][1]
        plan.append(block)
        place -= block[0]
    return plan[::-1]


def is_plan_of(settings, kept, plan):
    """Whether all blocks of a plan have lengths of the settings, or are kept ones at their places."""
    lengths, place = settings.lengths(), 0
    for block in plan:
        if block[0] not in lengths and (place not in kept or kept[place] != block):
            return False
        place += block[0]
    return True
