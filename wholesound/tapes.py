"""Tapes: streams spliced by edits so that whole blocks stay as they are, and what was done with a stream."""

from wholesound.arguments import check_within, is_bits, is_just
from wholesound.courses import course_of
from wholesound.edits import Edit, MOST_SOURCES, check_edit_of, edit_of, identity, is_rows, moments_told
from wholesound.edits import pieces_through, whole_pieces
from wholesound.errors import InvalidList, NothingToUndo, Unlike
from wholesound.settings import check_settings
from wholesound.sounds import MOST_SAMPLES
from wholesound.splices import is_plan_of, kept_ahead, kept_from, least_splice, plan_in, prices_in, source_of, splice_of
from wholesound.streams import sound_of, stream_of


def sources_of(settings, streams):
    """Streams with what they tell; refused are what are no streams of one depth, 1 to 8 of them."""
    check_settings(settings)
    if not isinstance(streams, list) or not 1 <= len(streams) <= MOST_SOURCES:
        raise InvalidList(streams)
    sources = [source_of(settings, stream) for stream in streams]
    for source in sources:
        check_depths(sources[0], source)
    return sources


def check_depths(one, other):
    """Refuse the stream of the second source unless its depth is that of the first one."""
    if one.sound().depth() != other.sound().depth():
        raise Unlike(other.bits())


def checked_sources(settings, streams, edit):
    """Streams with what they tell; refused are also what is no edit of their sounds."""
    sources = sources_of(settings, streams)
    check_edit_of(edit, [source.many() for source in sources], settings.ways())
    return sources


def spliced(settings, streams, edit):
    """The stream of what an edit tells, with the blocks that it keeps whole, and least plans between them; or None."""
    splice = splice_of(settings, checked_sources(settings, streams, edit), edit)
    return None if splice is None else splice.bits()


def least_spliced(settings, streams, edit):
    """The stream of the fewest bits of let and kept blocks, and the least size up to each place; or None."""
    sources = checked_sources(settings, streams, edit)
    sound, best = least_splice(settings, sources, edit)
    if best[-1] is None:
        return None
    return (stream_of(sources[0].bench(), sound, plan_in(best)), prices_in(best))


def is_least_spliced(settings, streams, edit, value):
    """Whether a value is such a stream and such sizes."""
    sources = checked_sources(settings, streams, edit)
    sound, best = least_splice(settings, sources, edit)
    if best[-1] is None or not isinstance(value, tuple) or len(value) != 2:
        return False
    bits, prices = value
    if not is_just(prices, prices_in(best)) or not is_bits(bits) or len(bits) != prices[-1]:
        return False
    course = course_of(settings, bits)
    if not course.is_told() or sound_of(course) != sound:
        return False
    return is_plan_of(settings, kept_ahead(sources, edit), course.plan())


def set_to(settings, stream, at, rows):
    """The stream with given samples in the place of as many moments from a place on, or None."""
    source = source_of(settings, stream)
    splice = splice_of(settings, [source], edit_with(source, settings.ways(), at, rows))
    return None if splice is None else splice.bits()


def edit_with(source, ways, at, rows):
    """The edit that gives rows in the place of moments from a place on; refused are what have no place or no room."""
    many = source.many()
    check_within(at, 0, many - 1)
    if not is_rows(rows, ways) or at + len(rows[0]) > many:
        raise InvalidList(rows)
    end = at + len(rows[0])
    return Edit([many], ways, kept_between(0, 0, at) + [("given", rows)] + kept_between(0, end, many))


def kept_between(source, low, high):
    """The pieces that keep the moments of a source from `low` on that are below `high`."""
    return [("keep", source, low, high - low)] if low < high else []


class Tape:
    """A stream and what is done with it, deed by deed."""

    def __init__(self, settings, stream):
        first = source_of(settings, stream)
        whole = identity(first.many(), settings.ways())
        self._settings = settings
        self._sources = [first]
        self._log = []
        self._states = [(first, whole, [(at, 0, number) for at, _, _, number in kept_from([first], whole)])]

    def do(self, edit):
        """Splice what is there by an edit: whether there is such a stream."""
        check_edit_of(edit, [self._now().many()], self._settings.ways())
        return self._done(("do", edit), [], edit)

    def bring(self, stream, at):
        """Put the sound of another stream in ahead of a place: whether there is such a stream."""
        now, other = self._now(), source_of(self._settings, stream)
        check_depths(now, other)
        check_within(at, 0, now.many())
        if now.many() + other.many() > MOST_SAMPLES or len(self._sources) == MOST_SOURCES:
            raise InvalidList(stream)
        pieces = kept_between(0, 0, at) + kept_between(1, 0, other.many()) + kept_between(0, at, now.many())
        edit = Edit([now.many(), other.many()], self._settings.ways(), pieces)
        return self._done(("bring", stream, at), [other], edit)

    def put(self, at, rows):
        """Put given samples in the place of as many moments from a place on: whether there is such a stream."""
        edit = edit_with(self._now(), self._settings.ways(), at, rows)
        return self._done(("put", at, [list(row) for row in rows]), [], edit)

    def _now(self):
        """What is there now."""
        return self._states[-1][0]

    def _done(self, deed, more, edit):
        """Do a deed that splices what is there, and perhaps one more source, by an edit."""
        splice = splice_of(self._settings, [self._now()] + more, edit)
        if splice is None:
            return False
        # What is held hangs on the blocks ahead of the splice, so it is looked at before these are left.
        held, number = self._held_by(more, edit), len(self._sources)
        firsts = [self._states[-1][1].pieces()] + [whole_pieces(number, source.many()) for source in more]
        self._sources += more
        lengths = [source.many() for source in self._sources]
        origin = edit_of(lengths, self._settings.ways(), pieces_through(firsts, edit.pieces()))
        self._log.append(deed)
        self._states.append((splice, origin, held))
        return True

    def _held_by(self, more, edit):
        """The blocks of sources that are held still behind an edit, with their places then."""
        now, _, held = self._states[-1]
        sources = {at: (source, block) for at, source, block in held}
        cuts, found = now.cuts(), []
        for at, _, source, number in kept_from([now] + more, edit):
            if source == 1:
                found.append((at, len(self._sources), number))
            elif cuts[number] in sources:
                found.append((at, sources[cuts[number]][0], sources[cuts[number]][1]))
        return found

    def bits(self):
        """The stream that is there now."""
        return self._now().bits()

    def sound(self):
        """The sound that is there now."""
        return self._now().sound()

    def log(self):
        """The deeds that stand, in order."""
        return [copied_deed(deed) for deed in self._log]

    def back(self):
        """Undo the last deed."""
        if self._log == []:
            raise NothingToUndo()
        deed = self._log.pop()
        self._states.pop()
        if deed[0] == "bring":
            self._sources.pop()

    def sources(self):
        """The first stream and those that were brought."""
        return [source.bits() for source in self._sources]

    def origin(self):
        """The edit that tells the sound now of the sources."""
        return self._states[-1][1]

    def gone(self):
        """For each source the places that stand nowhere now."""
        standing = [[False] * source.many() for source in self._sources]
        for source, at in moments_told(self.origin().pieces()):
            if source is not None:
                standing[source][at] = True
        return [[place for place, is_there in enumerate(row) if not is_there] for row in standing]

    def held(self):
        """The blocks of sources that all deeds since they came have kept: their places now, sources and numbers."""
        return list(self._states[-1][2])

    def straight(self):
        """The sources spliced at once by the origin, or None."""
        splice = splice_of(self._settings, self._sources, self.origin())
        return None if splice is None else splice.bits()

    def copy(self):
        """A tape of its own with the same."""
        other = Tape(self._settings, self._sources[0].bits())
        other._sources = list(self._sources)
        other._log = list(self._log)
        other._states = list(self._states)
        return other

    def __eq__(self, other):
        return (isinstance(other, Tape) and self._settings == other._settings and self._log == other._log
                and self._sources[0].bits() == other._sources[0].bits())


def copied_deed(deed):
    """The deed, with lists of its own."""
    return ("put", deed[1], [list(row) for row in deed[2]]) if deed[0] == "put" else deed
