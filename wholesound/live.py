"""Recording and listening: samples taken down block by block between marks, and blocks heard as they come."""

from wholesound.arguments import check_bits, check_within
from wholesound.bitrows import bits_of
from wholesound.blocks import bench_at, bits_of_block, copied_block
from wholesound.carriers import bare_row, check_carrier, pieces_of, stuffed_row
from wholesound.errors import InvalidList, NothingToUndo
from wholesound.finding import block_alone
from wholesound.leastkinds import all_rows, least_block_of
from wholesound.samples import is_samples
from wholesound.sounds import MOST_SAMPLES, Sound
from wholesound.streams import stream_of

GREATEST_LENGTH = 200
NUMBER_BITS = 12


class Recorder:
    """Takes down samples as they come, and closes a block whenever so many have come."""

    def __init__(self, settings, depth, length, mark):
        self._bench = bench_at(settings, depth)
        check_within(length, 1, GREATEST_LENGTH)
        check_carrier(mark)
        self._settings = settings
        self._depth = depth
        self._length = length
        self._mark = mark
        self._ways = [[] for _ in range(settings.ways())]
        self._blocks = []
        self._rows = []
        self._ends = [0]
        self._log = []

    def put(self, samples):
        """Take down samples, a list for each way, and close the blocks that are full now."""
        if not is_put(samples, self._depth, len(self._ways), MOST_SAMPLES - self.many()):
            raise InvalidList(samples)
        self._note(("put", [list(way) for way in samples]))
        self._ways = [way + more for way, more in zip(self._ways, samples)]
        while self.many() - self.closed() >= self._length:
            self._close(self.closed() + self._length)

    def flush(self):
        """Close the block that has begun, if any."""
        self._note(("flush",))
        if self.closed() < self.many():
            self._close(self.many())

    def _note(self, deed):
        """Put a deed into the log, with what there was ahead of it."""
        self._log.append((deed, self.many(), len(self._blocks)))

    def _close(self, end):
        """Close the block of the samples up to a number."""
        block, bits = self._least(self.closed(), [way[self.closed():end] for way in self._ways])
        self._blocks.append(block)
        self._rows.append(self._carried(bits))
        self._ends.append(end)

    def _least(self, first, ways):
        """The least block of samples, the first of them with a number, and its bits."""
        rows = all_rows(self._bench, Sound(self._depth, ways))
        _, block = least_block_of(self._bench, rows, 0, len(ways[0]))
        return (block, bits_of_block(self._bench, first, block, rows[block[1]]))

    def many(self):
        """How many samples there are, of each way."""
        return len(self._ways[0])

    def closed(self):
        """How many samples stand in closed blocks."""
        return self._ends[-1]

    def plan(self):
        """The closed blocks."""
        return [copied_block(block) for block in self._blocks]

    def stream(self):
        """The carried row of the bits of the closed blocks."""
        return self._stream_of(len(self._rows))

    def _stream_of(self, many):
        """The carried row of the bits of the first closed blocks, so many."""
        return self._mark + "".join(self._rows[:many])

    def _carried(self, bits):
        """The bits of a block, stuffed, with the mark behind it."""
        return stuffed_row(self._mark, bits) + self._mark

    def finished(self):
        """The stream of all samples, as if the block that has begun were closed."""
        plan, first = list(self._blocks), self.closed()
        if first < self.many():
            plan.append(self._least(first, [way[first:] for way in self._ways])[0])
        return stream_of(self._bench, Sound(self._depth, self._ways), plan)

    def sure_bits(self):
        """The longest row of bits with which the stream begins, whatever comes until it is flushed."""
        first, many = self.closed(), self.many() - self.closed()
        if many == 0:
            return self.stream()
        most = min([self._length, MOST_SAMPLES - first])
        if many == most:
            # No sample more has room: the block is what it is now.
            bits = self._least(first, [way[first:] for way in self._ways])[1]
            return self.stream() + self._carried(bits)
        lengths = shared_beginning(bits_of(many, NUMBER_BITS), bits_of(most, NUMBER_BITS))
        return self.stream() + stuffed_row(self._mark, bits_of(first, NUMBER_BITS) + lengths)

    def crash(self, at):
        """The first bits, so many, of the stream."""
        stream = self.stream()
        check_within(at, 0, len(stream))
        return stream[:at]

    def kept_from(self, number):
        """The fewest first bits of the stream out of which at least so many samples are resumed."""
        check_within(number, 0, self.closed())
        if number == 0:
            return 0
        blocks = [at for at, end in enumerate(self._ends) if end >= number][0]
        return len(self._stream_of(blocks))

    def log(self):
        """The deeds that were not undone, in order."""
        return [copied_deed(noted[0]) for noted in self._log]

    def back(self):
        """Undo the last deed, and tell it."""
        if self._log == []:
            raise NothingToUndo()
        deed, many, blocks = self._log.pop()
        self._ways = [way[:many] for way in self._ways]
        self._blocks = self._blocks[:blocks]
        self._rows = self._rows[:blocks]
        self._ends = self._ends[:blocks + 1]
        return copied_deed(deed)

    def copy(self):
        """A recorder of its own with the same."""
        other = Recorder(self._settings, self._depth, self._length, self._mark)
        other._ways = [list(way) for way in self._ways]
        other._blocks = list(self._blocks)
        other._rows = list(self._rows)
        other._ends = list(self._ends)
        other._log = list(self._log)
        return other

    def _resume(self, row):
        """Take down the block that a row of bits tells, if it is the one that would be closed here; whether it is."""
        standing = block_alone(self._bench, row)
        if standing is None or standing[0] != self.many() or standing[1][0] > self._length:
            return False
        ways = standing[2]
        if self._least(self.many(), ways)[1] != row:
            return False
        self._ways = [way + more for way, more in zip(self._ways, ways)]
        self._close(self.many())
        return True

    def __eq__(self, other):
        return (isinstance(other, Recorder) and self._settings == other._settings and self._depth == other._depth
                and self._length == other._length and self._mark == other._mark and self._ways == other._ways
                and self._blocks == other._blocks)


def is_put(value, depth, ways, most):
    """Whether a value is a list with as many lists of samples, all of one length, at most so long."""
    if not isinstance(value, list) or len(value) != ways:
        return False
    if not all([is_samples(way, depth) for way in value]):
        return False
    return len(value[0]) <= most and all([len(way) == len(value[0]) for way in value])


def copied_deed(deed):
    """The deed, with lists of its own."""
    return ("put", [list(way) for way in deed[1]]) if deed[0] == "put" else deed


def shared_beginning(one, other):
    """The bits with which two unlike rows of as many both begin."""
    unlike = [at for at, (sign, second) in enumerate(zip(one, other)) if sign != second]
    return one[:unlike[0]]


def resumed(settings, depth, length, mark, bits):
    """The recorder of the blocks with which bits begin as its stream would."""
    recorder = Recorder(settings, depth, length, mark)
    check_bits(bits)
    rows = [row for _, row in pieces_of(mark, bits)] if bits.startswith(mark) else []
    for row in rows:
        if not recorder._resume(row):
            break
    return recorder


class Listener:
    """Hears bits in pieces, and tells each block with the last bit of the mark behind it."""

    def __init__(self, settings, depth, mark):
        self._bench = bench_at(settings, depth)
        check_carrier(mark)
        self._settings = settings
        self._depth = depth
        self._mark = mark
        self._many = 0
        self._left = ""
        self._is_behind = False
        self._blocks = []
        self._samples = []

    def hear(self, bits):
        """Take more bits: the blocks that are found by now and were not told ahead, with their samples."""
        check_bits(bits)
        before, known = len(self._blocks), len(self._left)
        self._left += bits
        self._many += len(bits)
        # A mark may have begun in the bits that stood there already, but not ended.
        at = self._left.find(self._mark, max([0, known - len(self._mark) + 1]))
        while at >= 0:
            self._meet(at)
            at = self._left.find(self._mark)
        return (self._blocks[before:], copied_samples(self._samples[before:]))

    def _meet(self, at):
        """Take in the mark that stands at a place of what is left, and the row ahead of it."""
        if self._is_behind:
            standing = block_alone(self._bench, bare_row(self._mark, self._left[:at]))
            if standing is not None:
                self._blocks.append((self._many - len(self._left), standing[0], standing[1][0]))
                self._samples.append(standing[2])
        self._is_behind = True
        self._left = self._left[at + len(self._mark):]

    def told(self):
        """All blocks that were told, with their samples."""
        return (list(self._blocks), copied_samples(self._samples))

    def many(self):
        """How many bits were heard."""
        return self._many

    def waiting(self):
        """How many bits stand behind the last whole mark, all of them without one."""
        return len(self._left)

    def copy(self):
        """A listener of its own with the same."""
        other = Listener(self._settings, self._depth, self._mark)
        other._many = self._many
        other._left = self._left
        other._is_behind = self._is_behind
        other._blocks = list(self._blocks)
        other._samples = list(self._samples)
        return other


def copied_samples(samples):
    """The samples of blocks, with lists of their own."""
    return [[list(way) for way in ways] for ways in samples]
