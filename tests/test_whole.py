"""What is promised over the whole program: calls in any order, and modules that go with one another."""

import unittest

from wholesound.carriers import carried, uncarried
from wholesound.damage import hurt, most_lost
from wholesound.diffs import fewest, least_edit
from wholesound.edits import recovered, then, told
from wholesound.finding import found, most_in_order, patched, most_kept
from wholesound.guessers import Guesser, steps
from wholesound.live import Listener, Recorder, resumed
from wholesound.mixers import Mixer
from wholesound.plans import is_prices, least_plan, prices
from wholesound.seeking import is_table_paper, table_paper
from wholesound.settings import Settings
from wholesound.sounds import Sound, joined, part
from wholesound.streams import begun, mended, read, rows_of, write, wrong_at
from wholesound.tapes import Tape, spliced
from wholesound.texts import plan_text, prices_text, read_plan, read_prices, read_settings, settings_text, short_text
from wholesound.trims import trimmed

from tests.drawn import Drawn
from tests.morecalls import all_calls
from tests.odd import frozen, spoil

SETTINGS = Settings([2, 3, 4], [Mixer(2, []), Mixer(2, [("lift", 1, [-1, 0], 0), ("lift", 0, [0, 1], 1)])],
                    [steps(1), steps(2), Guesser([3], 1)], 2)


def drawn_sound(drawn, many, depth=6):
    row = drawn.numbers(many, -9, 9)
    return Sound(depth, [row, [sample + drawn.below(3) for sample in row]])


class AnyOrder(unittest.TestCase):

    def test_equal_calls_tell_the_same_in_whatever_order(self):
        calls = all_calls()
        first = [frozen(call.function(**call.good())) for call in calls]
        for at in reversed(range(len(calls))):
            result = calls[at].function(**calls[at].good())
            self.assertEqual(frozen(result), first[at], calls[at].name())
            spoil(result)
        drawn = Drawn(2)
        for _ in range(len(calls)):
            at = drawn.below(len(calls))
            self.assertEqual(frozen(calls[at].function(**calls[at].good())), first[at], calls[at].name())


class Together(unittest.TestCase):

    def test_what_is_written_is_read_back(self):
        drawn = Drawn(3)
        for _ in range(15):
            sound = drawn_sound(drawn, drawn.between(2, 20))
            settings = read_settings(settings_text(SETTINGS))
            size, plan = least_plan(settings, sound)
            self.assertTrue(is_prices(SETTINGS, sound, read_prices(prices_text(prices(settings, sound)))))
            for text in (plan_text(SETTINGS, 6, sound.many(), plan), short_text(SETTINGS, 6, sound.many(), plan)):
                self.assertEqual(write(SETTINGS, sound, read_plan(SETTINGS, 6, sound.many(), text)), write(settings, sound, plan))
            bits = write(settings, sound, plan)
            self.assertEqual((read(SETTINGS, bits), len(bits)), ((sound, plan), size))
            rows = rows_of(SETTINGS, bits)
            self.assertEqual(uncarried("1000", carried("1000", rows)), rows)
            at = drawn.below(len(bits))
            turned = hurt(bits, [("turn", at)])
            self.assertEqual((mended(SETTINGS, turned), wrong_at(SETTINGS, turned) is None), (bits, False))

    def test_edits_go_with_streams_and_tapes(self):
        drawn = Drawn(4)
        for _ in range(15):
            one, other = drawn_sound(drawn, drawn.between(2, 9)), drawn_sound(drawn, drawn.between(2, 9))
            streams = [write(SETTINGS, sound, least_plan(SETTINGS, sound)[1]) for sound in (one, other)]
            both = joined(one, other)
            kind, edit, _ = fewest([one, other], both)
            self.assertEqual((kind, read(SETTINGS, spliced(SETTINGS, streams, edit))[0]), ("pieces", both))
            edit = least_edit([one, other], both, 3, 1)[0]
            self.assertEqual(told(edit, [one, other]), both)
            tape = Tape(SETTINGS, streams[0])
            self.assertTrue(tape.bring(streams[1], one.many()))
            self.assertEqual(tape.sound(), both)
            self.assertEqual((tape.bits(), tape.gone()), (spliced(SETTINGS, streams, tape.origin()), [[], []]))
            for source, sound in enumerate((one, other)):
                kind, back, _ = recovered(tape.origin(), source)
                self.assertEqual((kind, told(back, [tape.sound()])), ("whole", sound))
                self.assertEqual(then(tape.origin(), back).length(), sound.many())
            cut = trimmed(both, 3, 2, 1)
            if tape.do(cut):
                self.assertEqual(tape.sound(), told(cut, [both]))
                self.assertEqual(begun(SETTINGS, tape.bits())[0], tape.sound())

    def test_recorders_go_with_streams_marks_and_damage(self):
        drawn = Drawn(5)
        for _ in range(15):
            sound, length = drawn_sound(drawn, drawn.between(4, 20)), drawn.between(1, 5)
            recorder = Recorder(SETTINGS, 6, length, "1000")
            recorder.put(sound.ways())
            self.assertEqual(read(SETTINGS, recorder.finished()), (sound, recorder.plan() + self.rest(recorder, sound)))
            recorder.flush()
            self.assertEqual(read(SETTINGS, recorder.finished()), (sound, recorder.plan()))
            lengths = [block[0] for block in recorder.plan()]
            self.assertTrue(is_table_paper(self.starts(lengths), sound.many(), 1, table_paper(self.starts(lengths), sound.many(), 1)))
            stream = recorder.stream()
            listener = Listener(SETTINGS, 6, "1000")
            self.assertEqual(listener.hear(stream), found(SETTINGS, 6, "1000", stream))
            for many in range(4):
                bits = stream
                for _ in range(many):
                    at = drawn.below(len(bits))
                    bits = hurt(bits, [drawn.item([("turn", at), ("lose", at), ("put", at, drawn.item("01"))])])
                blocks, samples = found(SETTINGS, 6, "1000", bits)
                self.assertGreaterEqual(most_in_order(blocks), sound.many() - most_lost(lengths, many))
                pieces = patched(blocks, samples, most_kept(blocks), sound.many())
                for piece in pieces:
                    if piece[0] == "told":
                        self.assertEqual(Sound(6, piece[2]), part(sound, piece[1], piece[1] + len(piece[2][0])))
                again = resumed(SETTINGS, 6, length, "1000", bits)
                self.assertEqual(again.plan(), recorder.plan()[:len(again.plan())])

    def rest(self, recorder, sound):
        """The block that a recorder would close now."""
        if recorder.closed() == sound.many():
            return []
        other = recorder.copy()
        other.flush()
        return other.plan()[-1:]

    def starts(self, lengths):
        return [sum(lengths[:at]) for at in range(len(lengths))]


if __name__ == "__main__":
    unittest.main()
