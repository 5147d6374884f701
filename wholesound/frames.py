"""Texts of plans: read line by line with frames, told how far they can be gone on with, and written in few lines."""

from wholesound.arguments import is_within
from wholesound.blocks import copied_block, is_kind
from wholesound.lines import line_of, numbers_behind
from wholesound.plans import reached_places

MOST_FRAMES = 10


def head_line(depth, samples):
    """The first line of the text of a plan."""
    return line_of(["plan"], [depth, samples])


def kind_line(kind):
    """The line of a way of a block."""
    return line_of([kind[0]], [] if len(kind) == 1 else [kind[1], kind[2]] + kind[3])


def block_lines(block):
    """The lines of a block, as one text."""
    return line_of(["block"], [block[0], block[1]]) + "".join([kind_line(kind) for kind in block[2]])


def kind_told(line):
    """The kind that a line tells, whether it goes anywhere or not, or None."""
    if line in ("still", "plain"):
        return (line,)
    numbers = numbers_behind(line, "guessed")
    return None if numbers is None or len(numbers) < 3 else ("guessed", numbers[0], numbers[1], numbers[2:])


class Frame:
    """A frame that is not ended yet, or all that stands outside of frames: how often it counts, and what is within."""

    def __init__(self, times):
        self._times = times
        self._length = 0
        self._blocks = []

    def times(self):
        """How often it stands there."""
        return self._times

    def length(self):
        """How many samples its blocks have in all, once."""
        return self._length

    def blocks(self):
        """The blocks within."""
        return self._blocks

    def take(self, blocks):
        """Take in blocks that are whole."""
        self._blocks += blocks
        self._length += sum([block[0] for block in blocks])


class PlanReader:
    """How far the text of a plan is read: which blocks there are, and which frames have begun."""

    def __init__(self, bench, lengths, depth, samples):
        self._bench = bench
        self._lengths = lengths
        self._samples = samples
        self._head = head_line(depth, samples)
        self._reached = reached_places(lengths, samples)
        self._is_begun = False
        self._frames = [Frame(1)]
        self._block = None

    def take(self, line):
        """Read one more line: whether some text begins with all lines so far."""
        if not self._is_begun:
            self._is_begun = line + "\n" == self._head
            return self._is_begun and self._goes_on()
        if self._block is not None:
            return self._take_kind(line)
        if line == "end":
            return self._end()
        return self._begin_block(numbers_behind(line, "block")) or self._begin_frame(numbers_behind(line, "times"))

    def is_whole(self):
        """Whether the lines so far are a whole text."""
        if not self._is_begun or len(self._frames) > 1 or self._block is not None:
            return False
        return self._frames[0].length() == self._samples

    def plan(self):
        """The plan that the lines tell, each block a new one."""
        return [copied_block(block) for block in self._frames[0].blocks()]

    def _begin_block(self, numbers):
        """Begin a block of a length and a mixer: whether there may be one."""
        if numbers is None or len(numbers) != 2 or numbers[0] not in self._lengths:
            return False
        if not is_within(numbers[1], 0, self._bench.many_mixers() - 1):
            return False
        self._block = (numbers[0], numbers[1], [])
        return self._goes_on()

    def _take_kind(self, line):
        """Read the line of a way of the block that has begun: whether its kind may stand there."""
        length, mixer, kinds = self._block
        bits, kind = self._bench.bits_of_ways(mixer)[len(kinds)], kind_told(line)
        if kind is None or not is_kind(self._bench, bits, length, kind):
            return False
        self._block = (length, mixer, kinds + [kind])
        if len(kinds) + 1 == self._bench.many_ways():
            self._frames[-1].take([self._block])
            self._block = None
        return True

    def _begin_frame(self, numbers):
        """Begin a frame that stands so many times: whether there may be one."""
        if numbers is None or len(numbers) != 1 or numbers[0] < 2 or len(self._frames) > MOST_FRAMES:
            return False
        self._frames.append(Frame(numbers[0]))
        return self._goes_on()

    def _end(self):
        """End the frame that began last: whether there is one, and something in it."""
        if len(self._frames) == 1 or self._frames[-1].length() == 0:
            return False
        frame = self._frames.pop()
        self._frames[-1].take(frame.blocks() * frame.times())
        return True

    def _goes_on(self):
        """Whether blocks of these lengths can fill what is left."""
        begun = 0 if self._block is None else self._block[0]
        length, times = begun, 1
        for frame in reversed(self._frames):
            # What is within stands as often as all frames around it say together.
            length = (length + frame.length()) * frame.times()
            times *= frame.times()
        left = self._samples - length
        if len(self._frames) > 1 and self._frames[-1].length() + begun == 0:
            return any([self._is_reached(left - times * one) for one in self._lengths])
        return self._is_reached(left)

    def _is_reached(self, left):
        """Whether lengths add up to a number of samples."""
        return left >= 0 and self._reached[left]


def wrong_number(reader, text):
    """The number, from 1, of the first line that no text has there, one more than there are lines if all may stand.

    None for the text of a plan.
    """
    lines = text.split("\n")
    for at, line in enumerate(lines[:-1]):
        if not reader.take(line):
            return at + 1
    # Nothing stands behind the last line end of a text: a line without its end is none.
    return None if lines[-1] == "" and reader.is_whole() else len(lines)


def same_behind(words):
    """For each distance and place: how many words from the place on are each like the one so far behind it."""
    many = len(words)
    found = []
    for distance in range(many):
        row = [0] * (many + 1)
        for at in reversed(range(many - distance)):
            row[at] = row[at + 1] + 1 if words[at] == words[at + distance] else 0
        found.append(row)
    return found


def period_lengths(same, low, many):
    """The lengths, less than so many, of rows that make up so many words from a place on by standing there again."""
    return [length for length in range(1, many)
            if many // length * length == many and same[length][low] >= many - length]


class Shortest:
    """The fewest lines for each stretch of words that have so many lines each, and how they are come by."""

    def __init__(self, words, lines):
        self._words = words
        self._lines = lines
        self._same = same_behind(words)
        # By the first place and the number of words: the lines, and the number of words of the first item in them.
        self._best = [[(0, 0)] for _ in range(len(words) + 1)]
        # By the same: the lines of one item for them all, and the number of words within its frame, 0 without one.
        self._items = [[(0, 0)] for _ in range(len(words) + 1)]
        for low in reversed(range(len(words))):
            for many in range(1, len(words) - low + 1):
                self._items[low].append(self._least_item(low, many))
                self._best[low].append(self._least(low, many))

    def _least_item(self, low, many):
        """The fewest lines of one item for so many words, and how many are within it, None without such an item."""
        if many == 1:
            return (self._lines, 0)
        frames = [(2 + self._best[low][length][0], length) for length in period_lengths(self._same, low, many)]
        return min(frames, default=None)

    def _least(self, low, many):
        """The fewest lines of so many words, and how many of these their first item has."""
        return min([(self._items[low][first][0] + self._best[low + first][many - first][0], first)
                    for first in range(1, many + 1) if self._items[low][first] is not None])

    def lines(self):
        """The fewest lines for all words."""
        return self._best[0][len(self._words)][0]

    def text(self, low, many):
        """A text of the fewest lines for so many words from a place on."""
        text = ""
        while many > 0:
            first = self._best[low][many][1]
            within = self._items[low][first][1]
            if within == 0:
                text += self._words[low]
            else:
                text += line_of(["times"], [first // within]) + self.text(low, within) + "end\n"
            low, many = low + first, many - first
        return text
