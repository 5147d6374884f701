"""[110] to [114]: recorders, what of their streams is sure, what is resumed of them, and listeners."""

import itertools
import os
import unittest

from wholesound.carriers import carried, stuffed
from wholesound.damage import hurt
from wholesound.errors import InvalidBits, InvalidList, InvalidNumber, NothingToUndo
from wholesound.finding import found
from wholesound.guessers import steps
from wholesound.live import Listener, Recorder, resumed
from wholesound.mixers import Mixer
from wholesound.plans import least_block
from wholesound.settings import Settings
from wholesound.sounds import Sound, number_bits, part
from wholesound.streams import block_bits, read, write

from tests.drawn import Drawn
from tests.odd import frozen, no_bits, numbers_but, spoil

ONE = Settings([2, 4], [Mixer(1, [])], [steps(1)], 1)
TWO = Settings([3], [Mixer(2, []), Mixer(2, [("lift", 1, [-1, 0], 0)])], [steps(1), steps(2)], 0)
BARE = Settings([1], [Mixer(1, [])], [], 0)
MARKS = ["100", "011", "1000", "11010", "0010011"]


class Slow:
    """A recorder by the words of the document: all samples, and where blocks end."""

    def __init__(self, settings, depth, length, mark):
        self.settings, self.depth, self.length, self.mark = settings, depth, length, mark
        self.ways = [[] for _ in range(settings.ways())]
        self.ends = [0]

    def put(self, samples):
        for moment in zip(*samples):
            for way, sample in zip(self.ways, moment):
                way.append(sample)
            if len(self.ways[0]) - self.ends[-1] == self.length:
                self.ends.append(len(self.ways[0]))

    def flush(self):
        if len(self.ways[0]) > self.ends[-1]:
            self.ends.append(len(self.ways[0]))

    def sounds(self, ends):
        whole = Sound(self.depth, self.ways)
        return [part(whole, low, high) for low, high in zip(ends, ends[1:])]

    def plan(self, ends=None):
        return [least_block(self.settings, sound, 0, sound.many())[1] for sound in self.sounds(ends or self.ends)]

    def stream(self):
        rows = [block_bits(self.settings, sound, first, block)
                for sound, first, block in zip(self.sounds(self.ends), self.ends, self.plan())]
        return carried(self.mark, rows)

    def finished(self):
        many = len(self.ways[0])
        ends = self.ends if many == self.ends[-1] else self.ends + [many]
        return write(self.settings, Sound(self.depth, self.ways), self.plan(ends))


def drawn_recorder(drawn, deeds=6, depth=4, settings=None):
    settings = settings or drawn.item([ONE, TWO])
    recorder = Recorder(settings, depth, drawn.between(1, 5), drawn.item(MARKS))
    for _ in range(deeds):
        many = drawn.below(5)
        recorder.put([drawn.samples(many, depth) if drawn.below(3) else [3] * many for _ in range(settings.ways())])
        if drawn.below(3) == 0:
            recorder.flush()
    return recorder


def smooth(drawn, many, depth):
    """Samples that guessers tell in fewer bits than they have themselves."""
    low, step = drawn.below(2 ** (depth - 2)), drawn.below(4)
    return [low + step * at + drawn.below(2) for at in range(many)]


class Recorders(unittest.TestCase):

    def agree(self, recorder, slow):
        self.assertEqual((recorder.many(), recorder.closed()), (len(slow.ways[0]), slow.ends[-1]))
        self.assertEqual(recorder.plan(), slow.plan())
        self.assertEqual(recorder.stream(), slow.stream())
        self.assertEqual(recorder.finished(), slow.finished())
        self.assertEqual(read(slow.settings, recorder.finished())[0], Sound(slow.depth, slow.ways))

    def test_drawn_deeds(self):
        drawn = Drawn(110)
        for _ in range(40):
            settings, depth = drawn.item([ONE, TWO, BARE]), drawn.item([1, 4, 9])
            arguments = (settings, depth, drawn.between(1, 5), drawn.item(MARKS))
            recorder, slow = Recorder(*arguments), Slow(*arguments)
            self.agree(recorder, slow)
            for _ in range(5):
                if drawn.below(3) == 0:
                    self.assertIsNone(recorder.flush())
                    slow.flush()
                else:
                    many = drawn.item([0, 1, 1, 2, 5, 12])
                    samples = [drawn.samples(many, depth) for _ in range(settings.ways())]
                    self.assertIsNone(recorder.put(samples))
                    slow.put(samples)
                self.agree(recorder, slow)

    def test_blocks_that_are_guessed(self):
        drawn = Drawn(1101)
        for settings in (ONE, TWO):
            recorder, slow = Recorder(settings, 14, 8, "1000"), Slow(settings, 14, 8, "1000")
            for many in (5, 8, 20):
                samples = [smooth(drawn, many, 14) for _ in range(settings.ways())]
                recorder.put(samples)
                slow.put(samples)
                recorder.flush()
                slow.flush()
            self.agree(recorder, slow)
            kinds = [kind for block in recorder.plan() for kind in block[2] if kind[0] == "guessed"]
            self.assertGreater(len(kinds), 3)
            before = frozen(recorder)
            for value in (recorder.plan(), recorder.copy().plan()):
                spoil(value)
            self.assertEqual(frozen(recorder), before)
            again = resumed(settings, 14, 8, "1000", recorder.stream() + "01")
            self.assertEqual(again, recorder)
            self.assertEqual(Listener(settings, 14, "1000").hear(recorder.stream())[0],
                             found(settings, 14, "1000", recorder.stream())[0])

    def test_one_by_one_none_and_many_at_once(self):
        row = [3, 3, 5, -8, 0, 0, 7]
        for length in range(1, 9):
            once = Recorder(ONE, 4, length, "100")
            once.put([row])
            slowly = Recorder(ONE, 4, length, "100")
            for sample in row:
                slowly.put([[]])
                slowly.put([[sample]])
            self.assertEqual(once, slowly)
            self.assertEqual((once.stream(), once.finished()), (slowly.stream(), slowly.finished()))
            self.assertEqual((once.closed(), len(once.plan())), (7 - 7 % length, 7 // length))

    def test_flush_with_nothing_open_twice_and_where_a_block_is_full(self):
        recorder = Recorder(ONE, 4, 2, "100")
        recorder.flush()
        self.assertEqual((recorder.stream(), recorder.plan(), recorder.closed()), ("100", [], 0))
        self.assertEqual(recorder.finished(), write(ONE, Sound(4, [[]]), []))
        recorder.put([[1, 2]])
        full = frozen((recorder.stream(), recorder.plan(), recorder.finished()))
        recorder.flush()
        self.assertEqual(frozen((recorder.stream(), recorder.plan(), recorder.finished())), full)
        recorder.put([[3]])
        recorder.flush()
        flushed = recorder.stream()
        recorder.flush()
        self.assertEqual((recorder.stream(), recorder.closed(), len(recorder.plan())), (flushed, 3, 2))
        self.assertEqual(len(recorder.log()), 5 + 1)

    def test_samples_up_to_4095(self):
        for length in (1, 7, 200):
            recorder = Recorder(BARE, 1, length, "100")
            recorder.put([[0, -1] * 2047])
            before = frozen(recorder)
            with self.assertRaises(InvalidList):
                recorder.put([[0, 0]])
            self.assertEqual(frozen(recorder), before)
            recorder.put([[0]])
            self.assertRaises(InvalidList, recorder.put, [[0]])
            recorder.put([[]])
            self.assertEqual((recorder.many(), recorder.closed()), (4095, 4095 - 4095 % length))
            recorder.flush()
            self.assertEqual((recorder.closed(), sum(block[0] for block in recorder.plan())), (4095, 4095))
            self.assertEqual(read(BARE, recorder.finished())[0].way(0), [0, -1] * 2047 + [0])

    def test_wrong_samples_change_nothing(self):
        recorder = Recorder(TWO, 4, 3, "100")
        recorder.put([[1, 2, 3, 4], [5, 6, 7, -8]])
        before = frozen(recorder)
        for samples in (None, 3, (), [], [[1]], [[1], [1], [1]], [[1], [1, 2]], [[1], (1,)], ([1], [1]), [[8], [1]], [[1], [True]],
                        [[1], [-9]], [[1], [None]], [[1], "1"], {0: [1], 1: [1]}, [[0] * 4095] * 2, [[1], Sound(4, [[1]])]):
            with self.assertRaises(InvalidList) as caught:
                recorder.put(samples)
            self.assertIs(caught.exception.value, samples)
        self.assertEqual(frozen(recorder), before)

    def test_by_names_and_lists_belong_to_the_caller(self):
        recorder, samples = Recorder(ONE, 4, 2, "100"), [[1, 2, 3]]
        recorder.put(samples=samples)
        recorder.flush()
        before = frozen(recorder)
        for value in (samples, recorder.plan(), recorder.log()):
            spoil(value)
        self.assertEqual(frozen(recorder), before)
        self.assertEqual(recorder.crash(at=3), "100")
        self.assertEqual(recorder.kept_from(number=0), 0)


def all_futures(recorder, more, samples):
    """The streams behind all further puts of some samples, flushed at the end or on the way."""
    streams = []
    for many in range(more + 1):
        for row in itertools.product(samples, repeat=many):
            for flushes in range(2 if many else 1):
                other = recorder.copy()
                for at, moment in enumerate(row):
                    other.put([[sample] for sample in moment])
                    if flushes and at == 0:
                        other.flush()
                other.flush()
                streams.append(other.stream())
    return streams


class SureBits(unittest.TestCase):

    def look(self, recorder, more, samples):
        streams = all_futures(recorder, more, samples)
        self.assertEqual(recorder.sure_bits(), os.path.commonprefix(streams))

    def test_all_small_recorders(self):
        for length in range(1, 6):
            for open_samples in range(length):
                for mark in ("100", "0010011"):
                    recorder = Recorder(BARE, 1, length, mark)
                    for _ in range(3):
                        recorder.put([[0] * open_samples])
                        self.look(recorder, length, [(-1,), (0,)])
                        recorder.flush()
                        self.look(recorder, 2, [(-1,), (0,)])

    def test_two_ways_and_a_greater_depth(self):
        recorder = Recorder(TWO, 2, 3, "100")
        recorder.put([[1, -2, 0, 0], [0, 1, 1, 1]])
        self.look(recorder, 2, list(itertools.product((-2, 1), repeat=2)))

    def test_lengths_that_share_their_first_bits(self):
        recorder = Recorder(BARE, 1, 127, "100")
        recorder.put([[0] * 100])
        head = "100" + stuffed("100", number_bits(0, 12) + number_bits(100, 12)[:7])
        self.assertEqual(recorder.sure_bits(), head)
        recorder.put([[0] * 20])
        self.assertEqual(recorder.sure_bits(), "100" + stuffed("100", number_bits(0, 12) + number_bits(120, 12)[:9]))
        recorder.put([[0] * 6])
        self.assertEqual(recorder.sure_bits(), "100" + stuffed("100", number_bits(0, 12) + number_bits(126, 12)[:11]))

    def test_without_open_samples(self):
        recorder = Recorder(BARE, 1, 2, "100")
        self.assertEqual(recorder.sure_bits(), "100")
        recorder.put([[0, 0]])
        self.assertEqual(recorder.sure_bits(), recorder.stream())

    def test_near_4095_samples(self):
        for length in (5, 200):
            for closed in range(4090, 4096):
                recorder = Recorder(BARE, 1, length, "100")
                recorder.put([[0] * closed])
                recorder.flush()
                for _ in range(4095 - closed):
                    self.look(recorder, 4095 - recorder.many(), [(-1,), (0,)])
                    recorder.put([[0]])
                self.look(recorder, 0, [])

    def test_where_the_length_can_get_but_one_number(self):
        recorder = Recorder(BARE, 1, 200, "100")
        recorder.put([[0] * 4095])
        self.assertEqual((recorder.closed(), recorder.many()), (4000, 4095))
        sure = recorder.sure_bits()
        self.assertNotEqual(sure, recorder.stream())
        recorder.flush()
        self.assertEqual((sure, recorder.sure_bits()), (recorder.stream(), recorder.stream()))


class Crashes(unittest.TestCase):

    def look(self, recorder, arguments):
        stream, plan = recorder.stream(), recorder.plan()
        ends = [len(carried(arguments[3], self.rows(recorder, arguments)[:at])) for at in range(len(plan) + 1)]
        kept = {}
        for at in range(len(stream) + 1):
            self.assertEqual(recorder.crash(at), stream[:at])
            again = resumed(*arguments, recorder.crash(at))
            blocks = len([end for end in ends[1:] if end <= at])
            self.assertEqual((again.plan(), again.many(), again.closed(), again.log()),
                             (plan[:blocks], sum(block[0] for block in plan[:blocks]), again.many(), []))
            self.assertEqual(again.stream(), stream[:ends[blocks]])
            kept.setdefault(again.many(), at)
        for number in range(recorder.closed() + 1):
            self.assertEqual(recorder.kept_from(number), min(at for many, at in kept.items() if many >= number))
        for number in numbers_but(0, recorder.closed()):
            self.assertRaises(InvalidNumber, recorder.kept_from, number)
        for at in numbers_but(0, len(stream)):
            self.assertRaises(InvalidNumber, recorder.crash, at)

    def rows(self, recorder, arguments):
        whole, first, rows = read(arguments[0], recorder.finished())[0], 0, []
        for block in recorder.plan():
            rows.append(block_bits(arguments[0], part(whole, first, first + block[0]), first, block))
            first += block[0]
        return rows

    def test_a_recorder_stopped_at_each_of_its_bits(self):
        drawn = Drawn(112)
        for _ in range(6):
            settings = drawn.item([ONE, TWO])
            arguments = (settings, 4, drawn.between(1, 4), drawn.item(MARKS))
            recorder = Recorder(*arguments)
            for _ in range(3):
                recorder.put([drawn.samples(drawn.below(4), 4)] * settings.ways())
                recorder.flush()
            self.look(recorder, arguments)

    def test_what_is_lost_put_again(self):
        drawn = Drawn(1120)
        for _ in range(25):
            settings = drawn.item([ONE, TWO])
            arguments = (settings, 4, drawn.between(1, 5), drawn.item(MARKS))
            recorder, flushed = Recorder(*arguments), []
            for _ in range(8):
                recorder.put([drawn.samples(drawn.below(5), 4)] * settings.ways())
                if drawn.below(3) == 0:
                    recorder.flush()
                    flushed.append(recorder.many())
            ways = read(settings, recorder.finished())[0].ways()
            again = resumed(*arguments, recorder.crash(drawn.below(len(recorder.stream()) + 1)))
            for number in range(again.closed(), recorder.many()):
                if number in flushed:
                    again.flush()
                again.put([[way[number]] for way in ways])
            if recorder.many() in flushed:
                again.flush()
            self.assertEqual(again.stream(), recorder.stream())
            self.assertEqual(again, recorder)

    def test_bits_behind_the_last_mark_and_any_bits(self):
        recorder = Recorder(ONE, 4, 2, "100")
        recorder.put([[3, 3, 5, 7]])
        whole = recorder.stream()
        for more in ("", "0", "1", "100", "0101", whole, stuffed("100", "01010"), "1" * 50, "00100"):
            self.assertEqual(resumed(ONE, 4, 2, "100", whole + more), recorder)
        none = Recorder(ONE, 4, 2, "100")
        for bits in ("", "1", "10", "100", "0" + whole, "1" + whole, whole[1:], "100100", "0" * 99, whole[4:]):
            self.assertEqual(resumed(ONE, 4, 2, "100", bits), none)

    def stream_of(self, *told):
        """The carried row of blocks: tuples of the first sample, the samples, and the block or None for the least."""
        rows = []
        for first, samples, block in told:
            sound = Sound(4, [samples])
            rows.append(block_bits(ONE, sound, first, block or least_block(ONE, sound, 0, len(samples))[1]))
        return carried("100", rows)

    def test_blocks_out_of_turn_too_long_or_not_the_least(self):
        plain = (2, 0, [("plain",)])
        for told, closed in (([(0, [3, 3], None), (2, [5], None), (3, [1, 1], None)], 5),
                             ([(0, [3, 3], None), (3, [5], None), (2, [1, 1], None)], 2),
                             ([(1, [3, 3], None)], 0), ([(0, [3, 3], plain), (2, [5], None)], 0),
                             ([(0, [3, 3], None), (2, [5, 5, 5], None), (5, [5], None)], 2),
                             ([(0, [3, 3], None), (0, [3, 3], None)], 2)):
            again = resumed(ONE, 4, 2, "100", self.stream_of(*told))
            self.assertEqual((again.closed(), again.many(), again.log()), (closed, closed, []))
        self.assertEqual(resumed(ONE, 4, 3, "100", self.stream_of((0, [3, 3], None), (2, [5, 5, 5], None))).closed(), 5)
        self.assertEqual(resumed(ONE, 5, 2, "100", self.stream_of((0, [3, 4], None))).closed(), 0)

    def test_nothing_is_resumed_behind_what_is_no_block(self):
        row = block_bits(ONE, Sound(4, [[3, 3]]), 0, (2, 0, [("still",)]))
        dear = block_bits(ONE, Sound(4, [[3, 3]]), 0, (2, 0, [("plain",)]))
        for rows, closed in ((["0101", row], 0), (["", row], 0), ([row[:-1], row], 0), ([row, "1", row], 2), ([row], 2),
                             ([dear, row], 0), ([row, row], 2)):
            self.assertEqual(resumed(ONE, 4, 2, "100", carried("100", rows)).closed(), closed)

    def test_any_turned_bit(self):
        recorder = Recorder(ONE, 4, 2, "1000")
        recorder.put([[3, 3, 5, 7, 1, 1]])
        stream = recorder.stream()
        ends = [recorder.kept_from(number) for number in (0, 2, 4, 6)]
        for at in range(len(stream)):
            again = resumed(ONE, 4, 2, "1000", hurt(stream, [("turn", at)]))
            self.assertEqual(again.plan(), recorder.plan()[:len([end for end in ends[1:] if end <= at])])

    def test_the_log_of_a_resumed_recorder_is_empty(self):
        recorder = Recorder(ONE, 4, 2, "100")
        recorder.put([[3, 3]])
        again = resumed(ONE, 4, 2, "100", recorder.stream())
        self.assertRaises(NothingToUndo, again.back)
        again.put([[1]])
        self.assertEqual((again.back(), again.many()), (("put", [[1]]), 2))
        self.assertRaises(NothingToUndo, again.back)
        self.assertRaises(InvalidBits, resumed, ONE, 4, 2, "100", "2")

    def test_up_to_4095_samples(self):
        recorder = Recorder(BARE, 1, 200, "100")
        recorder.put([[0] * 4095])
        recorder.flush()
        again = resumed(BARE, 1, 200, "100", recorder.stream())
        self.assertEqual((again, again.many()), (recorder, 4095))
        self.assertRaises(InvalidList, again.put, [[0]])


class Logs(unittest.TestCase):

    def test_each_deed_undone(self):
        drawn = Drawn(114)
        for _ in range(20):
            settings = drawn.item([ONE, TWO])
            recorder, past, deeds = Recorder(settings, 4, drawn.between(1, 5), "100"), [], []
            for _ in range(8):
                past.append(frozen(recorder))
                if drawn.below(3) == 0:
                    recorder.flush()
                    deeds.append(("flush",))
                else:
                    samples = [drawn.samples(drawn.below(5), 4)] * settings.ways()
                    recorder.put(samples)
                    deeds.append(("put", samples))
                self.assertEqual(recorder.log(), deeds)
            while past:
                self.assertEqual(recorder.back(), deeds.pop())
                self.assertEqual(frozen(recorder), past.pop())
            with self.assertRaises(NothingToUndo) as caught:
                recorder.back()
            self.assertEqual(vars(caught.exception), {})

    def test_undone_and_done_otherwise(self):
        recorder, other = Recorder(ONE, 4, 3, "100"), Recorder(ONE, 4, 3, "100")
        recorder.put([[1, 2]])
        recorder.flush()
        recorder.back()
        recorder.put([[3, 4]])
        other.put([[1, 2, 3, 4]])
        self.assertEqual((recorder, recorder.stream(), recorder.closed()), (other, other.stream(), 3))
        self.assertEqual(recorder.log(), [("put", [[1, 2]]), ("put", [[3, 4]])])

    def test_copies(self):
        recorder = drawn_recorder(Drawn(1140))
        before, other = frozen(recorder), recorder.copy()
        self.assertEqual((frozen(other), other == recorder), (before, True))
        other.put([[1]] * len(read_ways(recorder)))
        other.flush()
        self.assertEqual(frozen(recorder), before)
        self.assertFalse(other == recorder)
        self.assertEqual((other.back(), len(other.back()), frozen(other)), (("flush",), 2, before))
        while other.log():
            other.back()
        self.assertEqual(frozen(recorder), before)

    def test_equal(self):
        one, other = Recorder(ONE, 4, 2, "100"), Recorder(ONE, 4, 2, "100")
        one.put([[1, 2, 3]])
        for sample in (1, 2, 3):
            other.put([[sample]])
        self.assertTrue(one == other)
        other.flush()
        self.assertFalse(one == other)
        other.back()
        other.back()
        self.assertFalse(one == other)
        empty = Recorder(ONE, 4, 2, "100")
        for unlike in (Recorder(ONE, 5, 2, "100"), Recorder(ONE, 4, 3, "100"), Recorder(ONE, 4, 2, "011"),
                       Recorder(Settings([2], [Mixer(1, [])], [steps(1)], 1), 4, 2, "100"), None, "100", Listener(ONE, 4, "100")):
            self.assertFalse(empty == unlike)
            self.assertTrue(empty != unlike)


def read_ways(recorder):
    return recorder.log()[0][1] if recorder.log() else [[]]


class Listeners(unittest.TestCase):

    def look(self, settings, depth, mark, bits, pieces):
        listener, blocks, samples, heard = Listener(settings, depth, mark), [], [], ""
        for piece in pieces:
            heard += piece
            told = listener.hear(piece)
            blocks += told[0]
            samples += told[1]
            self.assertEqual(listener.told(), (blocks, samples))
            self.assertEqual((listener.told(), listener.many()), (found(settings, depth, mark, heard), len(heard)))
            last = heard.rfind(mark)
            self.assertEqual(listener.waiting(), len(heard) if last < 0 else len(heard) - last - len(mark))
        self.assertEqual(heard, bits)

    def test_whatever_the_pieces(self):
        drawn = Drawn(113)
        for _ in range(25):
            recorder = drawn_recorder(drawn, 4, 4, ONE)
            mark = next(one for one in MARKS if recorder.copy().crash(len(one)) == one)
            bits = "".join(drawn.item("01") for _ in range(drawn.below(9))) + recorder.stream()
            for _ in range(drawn.below(4)):
                at = drawn.below(len(bits))
                bits = hurt(bits, [drawn.item([("turn", at), ("lose", at), ("put", at, "1")])])
            self.look(ONE, 4, mark, bits, [bits])
            cuts = sorted(drawn.below(len(bits) + 1) for _ in range(drawn.below(9)))
            self.look(ONE, 4, mark, bits, [bits[low:high] for low, high in zip([0] + cuts, cuts + [len(bits)])])

    def test_pieces_of_one_bit_and_empty_ones(self):
        recorder = Recorder(TWO, 4, 2, "100")
        recorder.put([[1, 2, 3], [3, 3, -8]])
        recorder.flush()
        bits = "01" + recorder.stream() + "10"
        self.look(TWO, 4, "100", bits, [piece for bit in bits for piece in (bit, "")])

    def test_what_stands_ahead_of_the_first_mark_is_no_piece(self):
        recorder = Recorder(ONE, 4, 2, "100")
        recorder.put([[3, 3, 5, 7]])
        stream = recorder.stream()
        for bits in (stream[3:], "0" + stream[3:], stream[:3] + stream):
            self.look(ONE, 4, "100", bits, list(bits))
        self.assertEqual(len(found(ONE, 4, "100", stream[3:])[0]), 1)

    def test_each_block_comes_with_the_last_bit_of_the_mark_behind_it(self):
        recorder = Recorder(ONE, 4, 2, "1000")
        recorder.put([[3, 3, 5, 7, 1]])
        recorder.flush()
        stream, listener, came = recorder.stream(), Listener(ONE, 4, "1000"), []
        for at, bit in enumerate(stream):
            if listener.hear(bit)[0]:
                came.append(at + 1)
        self.assertEqual(came, [recorder.kept_from(number) for number in (2, 4, 5)])

    def test_copies_and_lists_that_belong_to_the_caller(self):
        recorder = Recorder(ONE, 4, 2, "100")
        recorder.put([[3, 3, 5, 7]])
        stream = recorder.stream()
        listener = Listener(ONE, 4, "100")
        listener.hear(stream[:-2])
        before, other = frozen(listener), listener.copy()
        self.assertEqual(frozen(other), before)
        self.assertEqual(other.hear(bits=stream[-2:])[0][0][1:], (2, 2))
        self.assertEqual(frozen(listener), before)
        spoil(listener.told())
        spoil(other.hear(stream))
        self.assertEqual(frozen(listener), before)
        self.assertEqual(listener.hear(stream[-2:])[1], [[[5, 7]]])
        self.assertEqual(other.told()[1], [[[3, 3]], [[5, 7]], [[3, 3]], [[5, 7]]])

    def test_wrong_bits_change_nothing(self):
        listener = Listener(ONE, 4, "100")
        listener.hear("10010")
        before = frozen(listener)
        for bits in no_bits():
            with self.assertRaises(InvalidBits) as caught:
                listener.hear(bits)
            self.assertIs(caught.exception.value, bits)
        self.assertEqual(frozen(listener), before)


class Limits(unittest.TestCase):

    def test_20000_bits_heard_bit_by_bit(self):
        recorder = Recorder(ONE, 16, 3, "1000")
        recorder.put([Drawn(1130).samples(900, 16)])
        bits = recorder.stream()[:20000]
        self.assertEqual(len(bits), 20000)
        for heard in (bits, "10" * 10000, "1000" * 5000, "0" * 20000):
            listener = Listener(ONE, 16, "1000")
            for bit in heard:
                listener.hear(bit)
            self.assertEqual(listener.told(), found(ONE, 16, "1000", heard))
        self.assertEqual(resumed(ONE, 16, 3, "1000", bits).stream(), bits[:len(resumed(ONE, 16, 3, "1000", bits).stream())])

    def test_the_limits_of_80_and_length_200(self):
        drawn = Drawn(1100)
        for settings, length in ((Settings([1, 2], [Mixer(1, [])] * 2, [steps(at % 4) for at in range(14)], 4), 16),
                                 (Settings([200], [Mixer(4, [])], [steps(1), steps(2)], 4), 200)):
            recorder = Recorder(settings, 16, length, "100")
            recorder.put([drawn.samples(60, 16) for _ in range(settings.ways())])
            recorder.flush()
            recorder.put([drawn.samples(400, 16) for _ in range(settings.ways())])
            self.assertEqual(recorder.sure_bits()[:len(recorder.stream())], recorder.stream())
            self.assertEqual(read(settings, recorder.finished())[0].many(), 460)
            self.assertEqual(resumed(settings, 16, length, "100", recorder.stream()).closed(), recorder.closed())


if __name__ == "__main__":
    unittest.main()
