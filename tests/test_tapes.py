"""[107], [108]: streams spliced by edits, and tapes."""

import itertools
import unittest

from wholesound.cuts import kept_blocks
from wholesound.edits import Edit, identity, told
from wholesound.errors import InvalidDepth, InvalidEdit, InvalidList, InvalidNumber, InvalidStream, NothingToUndo, Unlike
from wholesound.guessers import steps
from wholesound.mixers import Mixer
from wholesound.plans import least_plan
from wholesound.settings import Settings
from wholesound.sounds import Sound, part
from wholesound.streams import fits, read, rows_of, sizes, write
from wholesound.tapes import Tape, is_least_spliced, least_spliced, set_to, spliced

from tests.drawn import Drawn
from tests.odd import bent, frozen, no_bits, no_objects, numbers_but, spoil
from tests.test_edits import drawn_edit, moments
from tests.words import blocks_of

ONE = Settings([2, 3], [Mixer(1, [])], [steps(1)], 1)
TWO = Settings([2, 4], [Mixer(2, []), Mixer(2, [("lift", 1, [-1, 0], 0)])], [steps(1)], 0)
EVEN = Settings([2, 4], [Mixer(1, [])], [steps(1)], 1)


def drawn_plan(drawn, settings, sound):
    """Any plan that fits a sound, of any lengths."""
    plan, place = [], 0
    while place < sound.many():
        length = drawn.between(1, min(4, sound.many() - place))
        plan.append(drawn.item(blocks_of(settings, sound, place, length))[1])
        place += length
    return plan


def drawn_stream(drawn, settings, many, depth=3):
    sound = Sound(depth, [drawn.samples(many, depth) for _ in range(settings.ways())])
    return write(settings, sound, drawn_plan(drawn, settings, sound))


def cuts_of(settings, bits):
    cuts = [0]
    for block in read(settings, bits)[1]:
        cuts.append(cuts[-1] + block[0])
    return cuts


def kept_at(settings, streams, edit):
    """The kept blocks by their places."""
    plans = [read(settings, bits)[1] for bits in streams]
    cuts = [cuts_of(settings, bits) for bits in streams]
    return {at: plans[source][block] for at, source, block in kept_blocks(edit, cuts)}


def wanted_plan(settings, streams, edit):
    """The sound and the plan of `spliced`, from kept block to kept block; None in place of the plan if there is none."""
    sound = told(edit, [read(settings, bits)[0] for bits in streams])
    plan, place = [], 0
    for at, block in sorted(kept_at(settings, streams, edit).items()) + [(sound.many(), None)]:
        if at > place:
            least = least_plan(settings, part(sound, place, at))
            if least is None:
                return sound, None
            plan += least[1]
        if block is not None:
            plan.append(block)
            place = at + block[0]
    return sound, plan


def least_sizes(settings, sound, kept):
    """The least sizes up to each place by all blocks of the words of the document."""
    best = [27] + [None] * sound.many()
    for place in range(sound.many()):
        if best[place] is None:
            continue
        blocks = [told_block for length in settings.lengths() if place + length <= sound.many()
                  for told_block in blocks_of(settings, sound, place, length)]
        if place in kept:
            row = Sound(sound.depth(), [way[place:place + kept[place][0]] for way in sound.ways()])
            blocks.append((sizes(settings, row, [kept[place]])[1], kept[place]))
        for size, block in blocks:
            end = place + block[0]
            if best[end] is None or best[place] + size < best[end]:
                best[end] = best[place] + size
    return best


class Spliced(unittest.TestCase):

    def look(self, settings, streams, edit):
        bits = spliced(settings, streams, edit)
        sound, plan = wanted_plan(settings, streams, edit)
        if plan is None:
            self.assertIsNone(bits)
            return False
        self.assertEqual(read(settings, bits), (sound, plan))
        self.assertEqual(bits, write(settings, sound, plan))
        return True

    def test_all_edits_of_two_pieces(self):
        bits = write(EVEN, Sound(4, [[3, 3, 5, 6, 6]]), [(2, 0, [("still",)]), (2, 0, [("guessed", 0, 0, [1])]), (1, 0, [("plain",)])])
        keeps = [("keep", 0, low, high - low) for low in range(5) for high in range(low + 1, 6)] + [("given", [[-8, 7]])]
        made = 0
        for many in range(3):
            for pieces in itertools.product(keeps, repeat=many):
                made += self.look(EVEN, [bits], Edit([5], 1, list(pieces)))
        self.assertGreater(made, 50)

    def test_drawn_edits_of_several_streams(self):
        drawn = Drawn(107)
        made = 0
        for _ in range(120):
            settings = drawn.item([ONE, TWO, EVEN])
            streams = [drawn_stream(drawn, settings, drawn.below(7)) for _ in range(drawn.between(1, 3))]
            lengths = [read(settings, bits)[0].many() for bits in streams]
            made += self.look(settings, streams, drawn_edit(drawn, lengths, settings.ways(), 4, 3))
        self.assertGreater(made, 40)

    def test_gaps_at_the_beginning_in_the_middle_at_the_end_and_none(self):
        bits = write(EVEN, Sound(4, [[3, 3, 5, 6, 1, 1]]), [(2, 0, [("plain",)])] * 3)
        plain = (2, 0, [("plain",)])
        for pieces, where in (([("given", [[1, 1]]), ("keep", 0, 2, 2)], [1]), ([("keep", 0, 0, 2), ("given", [[1, 1]])], [0]),
                              ([("keep", 0, 0, 2), ("given", [[1, 2]]), ("keep", 0, 4, 2)], [0, 2]), ([("keep", 0, 0, 6)], [0, 1, 2]),
                              ([("given", [[1, 1]])], []), ([("keep", 0, 4, 2), ("keep", 0, 0, 4)], [0, 1, 2])):
            edit = Edit([6], 1, pieces)
            self.assertTrue(self.look(EVEN, [bits], edit))
            plan = read(EVEN, spliced(EVEN, [bits], edit))[1]
            self.assertEqual([plan[at] for at in where], [plain] * len(where))
        for pieces in ([("keep", 0, 0, 3)], [("given", [[1]])], [("keep", 0, 1, 4)] * 2 + [("keep", 0, 0, 1)]):
            self.assertIsNone(spliced(EVEN, [bits], Edit([6], 1, pieces)))

    def test_nothing_told(self):
        bits = write(EVEN, Sound(4, [[3, 3]]), [(2, 0, [("still",)])])
        empty = write(EVEN, Sound(4, [[]]), [])
        self.assertEqual(spliced(EVEN, [bits], Edit([2], 1, [])), empty)
        self.assertEqual(spliced(EVEN, [empty], Edit([0], 1, [])), empty)
        self.assertEqual(least_spliced(EVEN, [bits], Edit([2], 1, [])), (empty, [27]))
        self.assertTrue(is_least_spliced(EVEN, [bits], Edit([2], 1, []), (empty, [27])))

    def test_bits_of_kept_blocks_stay(self):
        drawn = Drawn(1070)
        for _ in range(40):
            bits = drawn_stream(drawn, ONE, 6)
            edit = drawn_edit(drawn, [6], 1, 4, 3)
            now = spliced(ONE, [bits], edit)
            if now is not None:
                old, new, cuts = rows_of(ONE, bits)[1:], rows_of(ONE, now)[1:], cuts_of(ONE, now)
                for at, _, block in kept_blocks(edit, [cuts_of(ONE, bits)]):
                    self.assertEqual(new[cuts.index(at)][51:-16], old[block][51:-16])

    def test_no_plan_with_the_kept_blocks_is_smaller(self):
        # Between kept blocks the least plan is told; so all other plans of let blocks there are tried.
        drawn = Drawn(1071)
        small = Settings([1, 2], [Mixer(1, [])], [], 0)
        for _ in range(40):
            bits = drawn_stream(drawn, small, 5, 2)
            edit = drawn_edit(drawn, [5], 1, 3, 1)
            sound, kept = told(edit, [read(small, bits)[0]]), kept_at(small, [bits], edit)
            least = {sound.many(): 0}
            for place in reversed(range(sound.many())):
                if place in kept:
                    blocks = [(sizes(small, part(sound, place, place + kept[place][0]), [kept[place]])[1], kept[place])]
                else:
                    blocks = [one for length in (1, 2) if place + length <= sound.many()
                              for one in blocks_of(small, sound, place, length)]
                # A block that lies across the beginning of a kept one, or begins within one, leads nowhere.
                ends = [size + least[place + block[0]] for size, block in blocks if place + block[0] in least
                        and not any(place < at < place + block[0] for at in kept)]
                if ends and not any(at < place < at + block[0] for at, block in kept.items()):
                    least[place] = min(ends)
            self.assertEqual(len(spliced(small, [bits], edit)), 27 + least[0])


class LeastSpliced(unittest.TestCase):

    def look(self, settings, streams, edit):
        sound, kept = told(edit, [read(settings, bits)[0] for bits in streams]), kept_at(settings, streams, edit)
        best = least_sizes(settings, sound, kept)
        value = least_spliced(settings, streams, edit)
        if best[-1] is None:
            self.assertIsNone(value)
            self.assertIs(is_least_spliced(settings, streams, edit, value), False)
            return False
        bits, prices = value
        self.assertEqual((prices, len(bits)), (best, best[-1]))
        heard, plan = read(settings, bits)
        self.assertEqual(heard, sound)
        place = 0
        for block in plan:
            self.assertTrue(block[0] in settings.lengths() or kept.get(place) == block)
            place += block[0]
        self.assertIs(is_least_spliced(settings, streams, edit, value), True)
        other = spliced(settings, streams, edit)
        self.assertTrue(other is None or len(other) >= len(bits))
        return True

    def test_drawn_edits(self):
        drawn = Drawn(1072)
        made = 0
        for _ in range(120):
            settings = drawn.item([ONE, TWO, EVEN])
            streams = [drawn_stream(drawn, settings, drawn.below(7)) for _ in range(drawn.between(1, 3))]
            lengths = [read(settings, bits)[0].many() for bits in streams]
            made += self.look(settings, streams, drawn_edit(drawn, lengths, settings.ways(), 3, 3))
        self.assertGreater(made, 40)

    def test_kept_blocks_of_lengths_that_are_not_let(self):
        bits = write(EVEN, Sound(4, [[3, 3, 5, 6, 1]]), [(3, 0, [("plain",)]), (2, 0, [("plain",)])])
        for pieces in ([("keep", 0, 0, 5)], [("keep", 0, 0, 3), ("given", [[1, 1]])], [("given", [[1, 1]]), ("keep", 0, 0, 5)],
                       [("keep", 0, 1, 4)], [("keep", 0, 0, 3)] * 3):
            self.look(EVEN, [bits], Edit([5], 1, pieces))
        value = least_spliced(EVEN, [bits], Edit([5], 1, [("keep", 0, 0, 3)]))
        self.assertEqual(value[1][1:3], [None, least_spliced(EVEN, [bits], Edit([5], 1, [("keep", 0, 0, 2)]))[1][2]])
        self.assertIsNone(least_spliced(EVEN, [bits], Edit([5], 1, [("keep", 0, 1, 1)])))

    def test_a_kept_block_that_is_not_the_least_may_be_left(self):
        # A guessed block told dearly: the least one of let blocks is taken in its place.
        bits = write(EVEN, Sound(4, [[3, 3]]), [(2, 0, [("guessed", 0, 0, [4, 4])])])
        still = write(EVEN, Sound(4, [[3, 3]]), [(2, 0, [("still",)])])
        self.assertEqual(spliced(EVEN, [bits], identity(2, 1)), bits)
        self.assertEqual(least_spliced(EVEN, [bits], identity(2, 1)), (still, [27, None, len(still)]))
        self.assertIs(is_least_spliced(EVEN, [bits], identity(2, 1), (bits, [27, None, len(still)])), False)

    def test_the_judge_takes_any_least_stream(self):
        # A row of one sample is as dear told plain as told still.
        settings = Settings([1], [Mixer(1, [])], [], 0)
        sound = Sound(4, [[3, 5]])
        streams = {write(settings, sound, [(1, 0, [one]), (1, 0, [other])])
                   for one, other in itertools.product([("still",), ("plain",)], repeat=2)}
        self.assertEqual(len(streams), 4)
        price = len(min(streams))
        for bits in streams:
            edit = Edit([2], 1, [("keep", 0, 0, 2)])
            prices = least_spliced(settings, [bits], edit)[1]
            for other in streams:
                self.assertIs(is_least_spliced(settings, [bits], edit, (other, prices)), True)
        self.assertEqual(prices[-1], price)

    def test_blocks_that_are_neither_let_nor_kept(self):
        # Rows of so few bits that the least stream has just as many with a block that must not stand there.
        settings = Settings([1], [Mixer(1, [])], [steps(1)], 0)
        two, loud = Sound(16, [[160, 160]]), Sound(16, [[85, 85]])
        odd = write(settings, two, [(2, 0, [("guessed", 0, 0, [2])])])
        let = write(settings, two, [(1, 0, [("plain",)])] * 2)
        self.assertEqual(len(odd), len(let))
        prices = least_spliced(settings, [let], identity(2, 1))[1]
        for streams, value in (([let], False), ([odd], True)):
            self.assertEqual(least_spliced(settings, streams, identity(2, 1))[1][-1], len(odd))
            self.assertIs(is_least_spliced(settings, streams, identity(2, 1), (odd, prices)), value)
        moved = Edit([2], 1, [("given", [[160]]), ("keep", 0, 0, 2), ("given", [[160]])])
        plain, guessed = [write(settings, loud, [(2, 0, [kind])]) for kind in (("plain",), ("guessed", 0, 0, [5]))]
        self.assertEqual(len(plain), len(guessed))
        for bits, other in ((plain, guessed), (guessed, plain)):
            prices = least_spliced(settings, [bits], identity(2, 1))[1]
            self.assertIs(is_least_spliced(settings, [bits], identity(2, 1), (bits, prices)), True)
            self.assertIs(is_least_spliced(settings, [bits], identity(2, 1), (other, prices)), False)
        value = least_spliced(settings, [plain], moved)
        self.assertIs(is_least_spliced(settings, [plain], moved, value), True)

    def test_bent(self):
        bits = write(EVEN, Sound(4, [[3, 3, 5, 6]]), [(2, 0, [("still",)]), (2, 0, [("plain",)])])
        edit = Edit([4], 1, [("keep", 0, 2, 2), ("keep", 0, 0, 2)])
        value = least_spliced(EVEN, [bits], edit)
        other = write(EVEN, Sound(4, [[3, 3, 5, 6]]), least_plan(EVEN, Sound(4, [[3, 3, 5, 6]]))[1])
        wrong = [(bits, value[1]), (other, value[1]), (value[0] + "0", value[1]), ("1" + value[0][1:], value[1]),
                 (value[0], value[1][:-1]), (value[0], value[1][:-1] + [value[1][-1] + 1]), (value[0][:-1], value[1])]
        for one in bent(value) + wrong:
            self.assertIs(is_least_spliced(EVEN, [bits], edit, one), False, one)


class SetTo(unittest.TestCase):

    def test_the_first_and_the_last_moment_and_all(self):
        sound = Sound(4, [[3, 3, 5, 6]])
        bits = write(EVEN, sound, [(2, 0, [("still",)]), (2, 0, [("plain",)])])
        for at in range(4):
            for many in range(1, 5 - at):
                row = [-8, 7, 0, 1][:many]
                now = set_to(EVEN, bits, at, [row])
                pieces = [("keep", 0, 0, at)] * (at > 0) + [("given", [row])]
                pieces += [("keep", 0, at + many, 4 - at - many)] * (at + many < 4)
                self.assertEqual(now, spliced(EVEN, [bits], Edit([4], 1, pieces)))
                self.assertEqual(read(EVEN, now)[0], Sound(4, [[3, 3, 5, 6][:at] + row + [3, 3, 5, 6][at + many:]]))
        self.assertEqual(read(EVEN, set_to(EVEN, bits, 3, [[6]]))[1][0], (2, 0, [("still",)]))

    def test_rows_that_have_no_room(self):
        bits = write(EVEN, Sound(4, [[3, 3, 5, 6]]), [(2, 0, [("still",)]), (2, 0, [("plain",)])])
        for at in range(4):
            for rows in ([[0] * (5 - at)], [[]], [[0], [0]]):
                with self.assertRaises(InvalidList) as caught:
                    set_to(EVEN, bits, at, rows)
                self.assertIs(caught.exception.value, rows)
        empty = write(EVEN, Sound(4, [[]]), [])
        for at in (0, -1, 1):
            self.assertRaises(InvalidNumber, set_to, EVEN, empty, at, [[1]])

    def test_no_plan(self):
        bits = write(EVEN, Sound(4, [[3, 3, 5]]), [(3, 0, [("plain",)])])
        self.assertIsNone(set_to(EVEN, bits, 0, [[1]]))


class Model:
    """What a tape has to tell, followed moment by moment and block by block."""

    def __init__(self, settings, bits):
        self.settings = settings
        self.sources = [bits]
        self.bits = bits
        self.tokens = [(0, place) for place in range(read(settings, bits)[0].many())]
        self.labels = [(0, block) for block in range(len(read(settings, bits)[1]))]

    def splice(self, streams, edit):
        """Whether there is a stream; then the tokens and the labels of blocks behind it."""
        bits = spliced(self.settings, streams, edit)
        if bits is None:
            return False
        number = len(self.sources)
        self.sources += streams[1:]
        spread = [self.tokens, [(number, place) for place in range(len(cuts_of(self.settings, streams[-1])) and
                                                                   read(self.settings, streams[-1])[0].many())]]
        self.tokens = [None if moment[-1] == "given" else spread[moment[0]][moment[1]]
                       for moment in moments(edit.pieces(), self.settings.ways())]
        labels, cuts = {}, [cuts_of(self.settings, one) for one in streams]
        for at, source, block in kept_blocks(edit, cuts):
            labels[at] = self.labels[block] if source == 0 else (number, block)
        self.bits = bits
        self.labels = [labels.get(at) for at in cuts_of(self.settings, bits)[:-1]]
        return True

    def held(self):
        return [(at,) + label for at, label in zip(cuts_of(self.settings, self.bits), self.labels) if label is not None]

    def gone(self):
        many = [read(self.settings, bits)[0].many() for bits in self.sources]
        return [[place for place in range(count) if (source, place) not in self.tokens] for source, count in enumerate(many)]


class Tapes(unittest.TestCase):

    def agree(self, tape, model, log):
        self.assertEqual(tape.bits(), model.bits)
        self.assertEqual(tape.sound(), read(model.settings, model.bits)[0])
        self.assertEqual(tape.sources(), model.sources)
        self.assertEqual(tape.log(), log)
        origin = tape.origin()
        self.assertEqual([None if moment[-1] == "given" else moment for moment in moments(origin.pieces(), origin.ways())],
                         model.tokens)
        sounds = [read(model.settings, bits)[0] for bits in model.sources]
        self.assertEqual(told(origin, sounds), tape.sound())
        self.assertEqual(tape.gone(), model.gone())
        self.assertEqual(tape.held(), model.held())
        straight = tape.straight()
        self.assertEqual(straight, spliced(model.settings, model.sources, origin))
        if straight is not None:
            plan = dict(zip(cuts_of(model.settings, straight), read(model.settings, straight)[1]))
            for at, source, block in tape.held():
                self.assertEqual(plan[at], read(model.settings, model.sources[source])[1][block])

    def deed(self, drawn, tape, model):
        """Do a drawn deed on both: the deed, and whether there was a stream."""
        settings, many = model.settings, tape.sound().many()
        kind = drawn.item(["do", "do", "bring", "put"])
        if kind == "put" and many:
            at = drawn.below(many)
            rows = [drawn.samples(drawn.between(1, min(3, many - at)), 3)]
            rows += [drawn.samples(len(rows[0]), 3) for _ in range(settings.ways() - 1)]
            pieces = [("keep", 0, 0, at)] * (at > 0) + [("given", rows)]
            end = at + len(rows[0])
            edit = Edit([many], settings.ways(), pieces + [("keep", 0, end, many - end)] * (end < many))
            self.assertEqual(set_to(settings, model.bits, at, rows), spliced(settings, [model.bits], edit))
            done = model.splice([model.bits], edit)
            self.assertIs(tape.put(at, rows), done)
            return ("put", at, rows), done
        if kind == "bring" and len(model.sources) < 8:
            other, at = drawn_stream(drawn, settings, drawn.below(4)), drawn.below(many + 1)
            more = read(settings, other)[0].many()
            pieces = [("keep", 0, 0, at)] * (at > 0) + [("keep", 1, 0, more)] * (more > 0) + [("keep", 0, at, many - at)] * (at < many)
            done = model.splice([model.bits, other], Edit([many, more], settings.ways(), pieces))
            self.assertIs(tape.bring(other, at), done)
            return ("bring", other, at), done
        edit = drawn_edit(drawn, [many], settings.ways(), 3, 3)
        if drawn.below(3) == 0:
            edit = identity(many, settings.ways())
        done = model.splice([model.bits], edit)
        self.assertIs(tape.do(edit), done)
        return ("do", edit), done

    def test_drawn_deeds_and_all_undone(self):
        drawn = Drawn(108)
        refused = stood = 0
        for _ in range(40):
            settings = drawn.item([ONE, TWO, Settings([1, 2, 3], [Mixer(1, [])], [], 0)])
            bits = drawn_stream(drawn, settings, drawn.below(7))
            tape, model, log, past = Tape(settings, bits), Model(settings, bits), [], []
            self.agree(tape, model, log)
            for _ in range(6):
                before = frozen(tape)
                deed, done = self.deed(drawn, tape, model)
                if done:
                    log.append(deed)
                    past.append(before)
                    stood += 1
                else:
                    self.assertEqual(frozen(tape), before)
                    refused += 1
                self.agree(tape, model, log)
            while past:
                self.assertIsNone(tape.back())
                self.assertEqual(frozen(tape), past.pop())
            self.assertRaises(NothingToUndo, tape.back)
            self.assertEqual(tape, Tape(settings, bits))
        self.assertTrue(refused > 20 and stood > 80)

    def tape(self):
        return Tape(EVEN, write(EVEN, Sound(4, [[3, 3, 5, 6]]), [(2, 0, [("still",)]), (2, 0, [("guessed", 0, 0, [1])])]))

    def test_a_tape_with_no_deed(self):
        tape = self.tape()
        self.assertEqual((tape.log(), tape.gone(), tape.held(), tape.origin(), tape.straight(), tape.sources()),
                         ([], [[]], [(0, 0, 0), (2, 0, 1)], identity(4, 1), tape.bits(), [tape.bits()]))
        with self.assertRaises(NothingToUndo) as caught:
            tape.back()
        self.assertEqual(vars(caught.exception), {})
        empty = Tape(EVEN, write(EVEN, Sound(4, [[]]), []))
        self.assertEqual((empty.gone(), empty.held(), empty.origin(), empty.straight()), ([[]], [], identity(0, 1), empty.bits()))
        self.assertIs(empty.do(Edit([0], 1, [("given", [[1]])])), False)
        self.assertIs(empty.do(Edit([0], 1, [("given", [[1, 1]])])), True)

    def test_deeds_that_change_nothing_stand(self):
        tape = self.tape()
        bits, empty = tape.bits(), write(EVEN, Sound(4, [[]]), [])
        self.assertTrue(tape.do(identity(4, 1)) and tape.bring(empty, 3) and tape.put(2, [[5, 6]]))
        self.assertEqual(tape.log(), [("do", identity(4, 1)), ("bring", empty, 3), ("put", 2, [[5, 6]])])
        self.assertEqual((tape.sources(), tape.gone(), tape.held()), ([bits, empty], [[2, 3], []], [(0, 0, 0)]))
        tape.back()
        self.assertEqual((tape.bits(), tape.held(), len(tape.sources())), (bits, [(0, 0, 0), (2, 0, 1)], 2))
        tape.back()
        self.assertEqual((tape.sources(), tape.gone()), ([bits], [[]]))

    def test_deeds_that_return_false_do_nothing(self):
        tape = self.tape()
        before = frozen(tape)
        odd = write(EVEN, Sound(4, [[1]]), [(1, 0, [("plain",)])])
        self.assertEqual((tape.do(Edit([4], 1, [("keep", 0, 0, 1)])), tape.put(0, [[1, 1, 1]]) is True, tape.bring(odd, 1)),
                         (False, True, False))
        tape.back()
        self.assertEqual(frozen(tape), before)
        self.assertIs(tape.bring(odd, 2), True)
        self.assertEqual(tape.held(), [(0, 0, 0), (2, 1, 0), (3, 0, 1)])

    def test_refused_calls_change_nothing(self):
        tape = self.tape()
        tape.do(Edit([4], 1, [("keep", 0, 2, 2), ("keep", 0, 0, 2)]))
        before, bits = frozen(tape), tape.bits()
        deeper = write(EVEN, Sound(5, [[1, 1]]), [(2, 0, [("still",)])])
        loud = Edit([4], 1, [("given", [[8, 0]])])
        for edit in no_objects(Edit) + [Edit([3], 1, []), Edit([4], 2, []), Edit([4, 4], 1, [])]:
            with self.assertRaises(InvalidEdit) as caught:
                tape.do(edit)
            self.assertIs(caught.exception.value, edit)
        for call, kind, value in ((lambda: tape.do(loud), InvalidDepth, 4), (lambda: tape.put(0, [[8]]), InvalidDepth, 4),
                                  (lambda: tape.bring(deeper, -1), Unlike, deeper), (lambda: tape.bring(deeper, 0), Unlike, deeper)):
            with self.assertRaises(kind) as caught:
                call()
            self.assertEqual(caught.exception.value, value)
        for stream in no_bits() + ["", bits[1:], bits + "1"]:
            with self.assertRaises(InvalidStream) as caught:
                tape.bring(stream, None)
            self.assertIs(caught.exception.value, stream)
        for at in numbers_but(0, 4):
            self.assertRaises(InvalidNumber, tape.bring, bits, at)
        for at in numbers_but(0, 3):
            self.assertRaises(InvalidNumber, tape.put, at, None)
        for rows in (None, [], [[]], [[1], [1]], [[1, 1, 1, 1, 1]], [[True]], [(1,)], [[2 ** 23]], ([1],)):
            with self.assertRaises(InvalidList) as caught:
                tape.put(0, rows)
            self.assertIs(caught.exception.value, rows)
        self.assertEqual(frozen(tape), before)

    def test_more_than_8_sources_and_4095_moments(self):
        settings = Settings([1, 4095], [Mixer(1, [])], [], 0)
        one = write(settings, Sound(4, [[1]]), [(1, 0, [("still",)])])
        full = write(settings, Sound(4, [[1] * 4095]), [(4095, 0, [("still",)])])
        tape = Tape(settings, one)
        for many in range(7):
            self.assertTrue(tape.bring(one, many + 1))
        before = frozen(tape)
        for at in (0, 8):
            with self.assertRaises(InvalidList) as caught:
                tape.bring(one, at)
            self.assertIs(caught.exception.value, one)
        self.assertRaises(InvalidNumber, tape.bring, one, 9)
        self.assertEqual(frozen(tape), before)
        self.assertEqual(tape.held(), [(at, at, 0) for at in range(8)])
        tape.back()
        with self.assertRaises(InvalidList) as caught:
            tape.bring(full, 0)
        self.assertIs(caught.exception.value, full)
        self.assertTrue(tape.do(Edit([7], 1, [])))
        self.assertTrue(tape.bring(full, 0))
        self.assertEqual((tape.sound().many(), tape.gone()[0], tape.held()), (4095, [0], [(0, 7, 0)]))
        self.assertRaises(InvalidList, tape.bring, full, 0)

    def test_copies_and_equal_tapes(self):
        one = self.tape()
        one.put(0, [[1, 1]])
        other = one.copy()
        self.assertTrue(one == other)
        before = frozen(one)
        other.put(2, [[1, 1]])
        self.assertEqual(frozen(one), before)
        self.assertFalse(one == other)
        other.back()
        self.assertTrue(one == other)
        other.back()
        self.assertEqual(frozen(other), frozen(self.tape()))
        self.assertEqual(frozen(one), before)
        one.bring(self.tape().bits(), 4)
        again = one.copy()
        again.back()
        self.assertEqual((len(one.sources()), len(again.sources())), (2, 1))
        # The log alone tells tapes of one first stream apart, not what is there now.
        slow = self.tape()
        slow.do(identity(4, 1))
        self.assertFalse(slow == self.tape())
        self.assertFalse(self.tape() == Tape(Settings([2, 3], [Mixer(1, [])], [steps(1)], 1), self.tape().bits()))
        self.assertFalse(self.tape() == None or self.tape() == self.tape().bits())

    def test_lists_belong_to_the_caller(self):
        tape, rows = self.tape(), [[1, 1]]
        tape.put(0, rows)
        before = frozen(tape)
        for value in (rows, tape.log(), tape.gone(), tape.held(), tape.sources(), tape.origin().pieces(), tape.sound().ways()):
            spoil(value)
        self.assertEqual(frozen(tape), before)
        self.assertEqual(tape.log(), [("put", 0, [[1, 1]])])

    def test_by_names(self):
        tape = self.tape()
        self.assertTrue(tape.do(edit=identity(4, 1)) and tape.bring(at=0, stream=tape.bits()) and tape.put(rows=[[1]], at=0))

    def test_straight_may_be_none(self):
        # Taken apart and put together again blocks of the source are no longer held, but straight they are kept.
        settings = Settings([2], [Mixer(1, [])], [], 0)
        tape = Tape(settings, write(settings, Sound(4, [[1, 2, 3, 4, 5, 6]]), [(3, 0, [("plain",)])] * 2))
        self.assertTrue(tape.do(Edit([6], 1, [("keep", 0, 0, 2), ("keep", 0, 4, 2), ("keep", 0, 2, 2)])))
        self.assertTrue(tape.do(Edit([6], 1, [("keep", 0, 0, 2), ("keep", 0, 4, 2), ("keep", 0, 2, 2)])))
        self.assertEqual((tape.origin(), tape.held()), (identity(6, 1), []))
        self.assertEqual(tape.straight(), tape.sources()[0])
        self.assertTrue(tape.do(Edit([6], 1, [("keep", 0, 0, 4)])))
        self.assertEqual((tape.origin(), tape.straight()), (Edit([6], 1, [("keep", 0, 0, 4)]), None))


class Limits(unittest.TestCase):

    def test_the_limits_of_80(self):
        drawn = Drawn(1080)
        for settings in (Settings([1, 2, 3, 4, 5, 6], [Mixer(1, [])], [steps(at % 4) for at in range(9)], 4),
                         Settings([1, 2, 4, 8, 16, 32], [Mixer(2, [("lift", 0, [0, 3], 5)]), Mixer(2, [])], [], 4)):
            sound = Sound(16, [drawn.samples(60, 16) for _ in range(settings.ways())])
            bits = write(settings, sound, least_plan(settings, sound)[1])
            turned = Edit([60], settings.ways(), [("keep", 0, at, 1) for at in reversed(range(60))])
            tape = Tape(settings, bits)
            self.assertTrue(tape.do(turned) and tape.put(3, [[7] * 9] * settings.ways()) and tape.do(turned))
            self.assertTrue(fits(settings, tape.sound(), read(settings, tape.bits())[1]))
            self.assertIsNotNone(tape.straight())
            many = Edit([60] * 8, settings.ways(), [("keep", source, 7 * source, 7) for source in range(8)])
            value = least_spliced(settings, [bits] * 8, many)
            self.assertTrue(is_least_spliced(settings, [bits] * 8, many, value))
            self.assertLessEqual(len(value[0]), len(spliced(settings, [bits] * 8, many)))


if __name__ == "__main__":
    unittest.main()
