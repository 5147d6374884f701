"""[120] to [125]: texts of guessers, mixers, settings, prices and plans."""

import functools
import itertools
import re
import unittest

from wholesound.errors import InvalidItem, InvalidText
from wholesound.guessers import Guesser, steps
from wholesound.mixers import Mixer
from wholesound.orders import how_many_plans, plan_at
from wholesound.plans import least_plan, prices
from wholesound.settings import Settings
from wholesound.sounds import Sound
from wholesound.streams import fits
from wholesound.texts import guesser_text, is_let, mixer_text, plan_text, prices_text, read_guesser, read_mixer, read_plan
from wholesound.texts import read_prices, read_settings, settings_text, short_lines, short_text, wrong_line

from tests.drawn import Drawn
from tests.odd import bent, lists_within

NUMBER = "(?:0|-?[1-9][0-9]{0,39})"
FORTY, FORTY_ONE = "9" * 40, "1" + "0" * 40


def spoilt_texts(text, drawn=None):
    """The text with each sign gone, told twice or another one, with lines gone, told twice and turned about."""
    found = [text[:at] + text[at + 1:] for at in range(len(text))] + [text[:at] + text[at] + text[at:] for at in range(len(text))]
    found += [text[:at] + sign + text[at + 1:] for at in range(len(text)) for sign in " -0179\na"]
    found += [text[:at] + sign + text[at:] for at in range(len(text) + 1) for sign in " -0\n\t\r+_"]
    lines = text.split("\n")[:-1]
    for at in range(len(lines)):
        for other in (lines[:at] + lines[at + 1:], lines[:at + 1] + lines[at:], lines[at:] + lines[:at]):
            found.append("".join(line + "\n" for line in other))
    return found + [text + "\n", "\n" + text, text + text, text[:-1], text + " ", "", "\n"]


def guesser_by_words(text):
    """Whether a text is that of a guesser, by the words of the document."""
    if not re.fullmatch(rf"guesser {NUMBER}(?: {NUMBER})*\n", text):
        return False
    shift, *weights = [int(word) for word in text.split()[1:]]
    return 0 <= shift <= 15 and len(weights) <= 8 and all(-2 ** 15 <= weight <= 2 ** 15 for weight in weights)


def mixer_by_words(text):
    """Whether a text is that of a mixer."""
    if not re.fullmatch(rf"mixer {NUMBER}\n(?:(?:lift|turn|swap)(?: {NUMBER})+\n)*", text):
        return False
    wide = int(text.split()[1])
    for line in text.split("\n")[1:-1]:
        word, numbers = line.split(" ")[0], [int(number) for number in line.split(" ")[1:]]
        if word == "lift":
            good = len(numbers) == 2 + wide and 0 <= numbers[0] < wide and numbers[1] >= 0 and numbers[2 + numbers[0]] == 0
        else:
            good = len(numbers) == (1 if word == "turn" else 2) and all(0 <= at < wide for at in numbers)
            good = good and len(set(numbers)) == len(numbers)
        if not good:
            return False
    return 1 <= wide <= 4


def settings_by_words(text):
    """Whether a text is that of settings."""
    found = re.fullmatch(rf"settings\nlengths((?: {NUMBER})+)\nparts ({NUMBER})\n((?:guesser.*\n)*)((?:(?:mixer|lift|turn|swap).*\n)*)", text)
    if not found:
        return False
    lengths = [int(word) for word in found[1].split()]
    guessers = found[3].splitlines(keepends=True)
    mixers = ["mixer" + part for part in found[4].split("mixer")[1:]]
    good = 1 <= len(lengths) <= 6 and lengths == sorted(set(lengths)) and 1 <= lengths[0] and lengths[-1] <= 4095
    good = good and 0 <= int(found[2]) <= 4 and len(guessers) <= 16 and all(guesser_by_words(line) for line in guessers)
    good = good and 1 <= len(mixers) <= 8 and all(mixer_by_words(part) for part in mixers) and found[4].startswith("mixer")
    return good and len({part.split("\n")[0] for part in mixers}) == 1


def prices_by_words(text):
    return re.fullmatch(r"prices\n(?:price (?:none|0|[1-9][0-9]{0,39})\n)*", text) is not None


class Texts(unittest.TestCase):

    def look(self, write, read, by_words, text):
        """Read a text if it is one, and have it refused otherwise."""
        if by_words(text):
            self.assertEqual(write(read(text)), text)
            return 1
        with self.assertRaises(InvalidText) as caught:
            read(text)
        self.assertIs(caught.exception.value, text)
        return 0

    def test_guessers(self):
        drawn, right = Drawn(120), 0
        some = [Guesser([], 0), Guesser([0] * 8, 15), Guesser([2 ** 15, -2 ** 15], 1)] + [steps(order) for order in range(9)]
        some += [Guesser(drawn.numbers(drawn.below(9), -2 ** 15, 2 ** 15), drawn.below(16)) for _ in range(5)]
        for guesser in some:
            text = guesser_text(guesser)
            self.assertEqual(read_guesser(text), guesser)
            for other in spoilt_texts(text):
                right += self.look(guesser_text, read_guesser, guesser_by_words, other)
        self.assertGreater(right, 100)
        self.assertEqual(guesser_text(Guesser([], 3)), "guesser 3\n")

    def test_mixers(self):
        right = 0
        side = Mixer(2, [("lift", 1, [-1, 0], 0), ("turn", 0), ("swap", 0, 1), ("lift", 0, [0, 10 ** 39], 10)])
        for mixer in (Mixer(1, []), Mixer(4, [("swap", 3, 0)]), side, Mixer(1, [("lift", 0, [0], 3)]), Mixer(3, [("turn", 2)] * 12)):
            text = mixer_text(mixer)
            self.assertEqual(read_mixer(text), mixer)
            for other in spoilt_texts(text):
                right += self.look(mixer_text, read_mixer, mixer_by_words, other)
        self.assertGreater(right, 100)
        for text in ("mixer 2\nlift 0 0 0 -1\nguesser 1\n", "mixer 2\nmixer 2\n", "mixer 2\nlift\n", "mixer 2\nlift 0\n",
                     "mixer 2\nlift 0 0\n", "mixer 2\nturn\n", "mixer 2\nturn 0 0\n", "mixer\n", "mixer 1 1\n", "turn 0\n"):
            self.look(mixer_text, read_mixer, mixer_by_words, text)

    def test_settings(self):
        right = 0
        side = Mixer(2, [("lift", 1, [-1, 0], 0), ("lift", 0, [0, 1], 1), ("swap", 0, 1)])
        for settings in (Settings([1], [Mixer(1, [])], [], 0), Settings([2, 40, 4095], [Mixer(2, []), side], [steps(1), Guesser([3], 2)], 4),
                         Settings([1, 2, 3, 4, 5, 6], [Mixer(4, [])] * 8, [Guesser([], 0)] * 16, 3)):
            text = settings_text(settings)
            self.assertEqual(read_settings(text), settings)
            for other in spoilt_texts(text):
                right += self.look(settings_text, read_settings, settings_by_words, other)
        self.assertGreater(right, 100)
        head = "settings\nlengths 2 4\nparts 1\n"
        for text in (head, head + "mixer 1\n", head + "mixer 1\n" * 8, head + "mixer 1\n" * 9, head + "guesser 0\n" * 16 + "mixer 1\n",
                     head + "guesser 0\n" * 17 + "mixer 1\n", head + "mixer 1\nguesser 0\n", head + "turn 0\nmixer 1\n",
                     head + "mixer 1\nmixer 2\n", head + "mixer 1\nprice 0\n", "settings\nlengths 4 2\nparts 1\nmixer 1\n",
                     "settings\nlengths\nparts 1\nmixer 1\n", "settings\nparts 1\nlengths 2\nmixer 1\n",
                     "settings\nlengths 2\nparts 5\nmixer 1\n", "settings\nlengths 2\nparts\nmixer 1\n", "settings 1\nlengths 2\nparts 1\nmixer 1\n"):
            self.look(settings_text, read_settings, settings_by_words, text)

    def test_prices(self):
        right = 0
        for one in ([], [27, None, 100], [None] * 3, [0, 10 ** 29, 10 ** 39], [7]):
            text = prices_text(one)
            self.assertEqual(read_prices(text), one)
            for other in spoilt_texts(text):
                right += self.look(prices_text, read_prices, prices_by_words, other)
        self.assertGreater(right, 50)
        self.assertEqual(prices_text([27, None]), "prices\nprice 27\nprice none\n")
        for wrong in ([-1], [27, True], [None, "none"], [[27]], [27, 2, (1,), None]):
            with self.assertRaises(InvalidItem) as caught:
                prices_text(wrong)
            self.assertIs(caught.exception.value, next(item for item in wrong if item not in (27, 2, None) or item is True))

    def test_numbers_of_40_and_41_figures(self):
        for sign in ("", "-"):
            text = f"mixer 2\nlift 0 0 0 {sign}{FORTY}\n"
            self.assertEqual(read_mixer(text).steps(), [("lift", 0, [0, int(sign + FORTY)], 0)])
            self.assertEqual(mixer_text(read_mixer(text)), text)
            self.assertRaises(InvalidText, read_mixer, f"mixer 2\nlift 0 0 0 {sign}{FORTY_ONE}\n")
        self.assertEqual(read_prices(f"prices\nprice {FORTY}\n"), [int(FORTY)])
        self.assertRaises(InvalidText, read_prices, f"prices\nprice {FORTY_ONE}\n")
        for number in ("00", "01", "-0", "+1", "- 1", "--1", "1_0", "1.0", "0x1", "\u0663", "\u00b2", "1\u00a0", "", "None"):
            self.assertRaises(InvalidText, read_prices, f"prices\nprice {number}\n")
            self.assertRaises(InvalidText, read_guesser, f"guesser 0 {number}\n")

    def test_other_line_ends(self):
        for text in ("prices\r\n", "prices\nprice 1\x0b", "prices\x0cprice 1\n", "prices\u2028price 1\n", "prices\rprice 1\n"):
            self.assertRaises(InvalidText, read_prices, text)

    def test_plans_and_prices_go_with_texts(self):
        settings, sound = Settings([2, 4], [Mixer(1, [])], [steps(1)], 1), Sound(4, [[3, 3, 5, 6, 6, 6, 6, 7]])
        self.assertEqual(read_prices(prices_text(prices(settings, sound))), prices(settings, sound))
        again = read_settings(settings_text(settings))
        plan = least_plan(again, sound)[1]
        self.assertEqual(plan, least_plan(settings, sound)[1])
        for text in (plan_text(settings, 4, 8, plan), short_text(settings, 4, 8, plan)):
            self.assertTrue(fits(settings, sound, read_plan(settings, 4, 8, text)))
            self.assertEqual(read_plan(settings, 4, 8, text), plan)


ONE = Settings([2, 3], [Mixer(1, [])], [], 0)
SIDE = Settings([2, 4], [Mixer(2, []), Mixer(2, [("lift", 1, [-1, 0], 0)])], [steps(1)], 1)


@functools.lru_cache(None)
def all_rows(lengths, samples, some=False):
    """All rows of lines of blocks and frames that stand for so many samples, each with its blocks; none if `some`."""
    found = [] if some or samples else [((), ())]
    for length in lengths:
        if length <= samples:
            for kind in ("still", "plain"):
                lines, block = (f"block {length} 0", kind), (length, 0, kind)
                found += [(lines + more, (block,) + blocks) for more, blocks in all_rows(lengths, samples - length)]
    for times in range(2, samples + 1):
        for within in range(1, samples // times + 1):
            for lines, blocks in all_rows(lengths, within, True):
                frame = (f"times {times}",) + lines + ("end",)
                found += [(frame + more, blocks * times + behind) for more, behind in all_rows(lengths, samples - times * within)]
    return found


def all_texts(samples, lengths=(2, 3), depth=4):
    """A dict from the lines of each text of a plan of so many samples to the plan."""
    return {(f"plan {depth} {samples}",) + lines: [(length, mixer, [(kind,)]) for length, mixer, kind in blocks]
            for lines, blocks in all_rows(lengths, samples)}


def text_of(lines):
    return "".join(line + "\n" for line in lines)


POOL = ["block 2 0", "block 3 0", "block 4 0", "block 2 1", "block 2 -0", "block 2", "block 2 0 0", "block  2 0", "block 2 0 ", " block 2 0",
        "still", "plain", "still 0", "guessed 0 0 0", "guessed", "times 2", "times 3", "times 4", "times 1", "times 0", "times -2",
        "times 02", "times", "times 2 2", "times " + FORTY, "times " + FORTY_ONE, "end", "end 0", "", "plan 4 6", "plan", "none", "END"]


class Frames(unittest.TestCase):

    def test_all_texts_of_small_plans(self):
        for samples in range(8):
            for lines, plan in all_texts(samples).items():
                text = text_of(lines)
                self.assertEqual(read_plan(ONE, 4, samples, text), plan)
                self.assertIsNone(wrong_line(ONE, 4, samples, text))
                if "end" not in lines:
                    self.assertEqual(plan_text(ONE, 4, samples, plan), text)

    def test_all_beginnings_and_whatever_line_comes_next(self):
        for samples in range(8):
            whole = all_texts(samples)
            begins = {lines[:many] for lines in whole for many in range(len(lines) + 1)}
            for lines in begins or {()}:
                for line in POOL + [f"plan 4 {samples}", f"plan 04 {samples}", f"plan 4 {samples} "]:
                    longer = lines + (line,)
                    number = len(longer) + 1 if longer in begins else len(longer)
                    number = None if longer in whole else number
                    self.assertEqual(wrong_line(ONE, 4, samples, text_of(longer)), number, longer)
                    if number is None:
                        self.assertEqual(read_plan(ONE, 4, samples, text_of(longer)), whole[longer])
                    else:
                        self.assertRaises(InvalidText, read_plan, ONE, 4, samples, text_of(longer))
                    # What stands behind the last line end is a line that no text has, whatever was wrong ahead of it.
                    ahead = len(longer) if longer in begins else number - 1
                    for more in ("x", "end", "block 2 0", " "):
                        self.assertEqual(wrong_line(ONE, 4, samples, text_of(longer) + more), ahead + 1)
                    self.assertEqual(wrong_line(ONE, 4, samples, text_of(lines) + line),
                                     len(lines) + 1 if line or lines not in whole else None)

    def test_no_lines(self):
        for samples in (0, 1, 2):
            self.assertEqual(wrong_line(ONE, 4, samples, ""), 1)
            self.assertRaises(InvalidText, read_plan, ONE, 4, samples, "")
        self.assertEqual(wrong_line(ONE, 4, 1, "plan 4 1\n"), 1)
        self.assertEqual(wrong_line(ONE, 4, 0, "plan 4 0\n"), None)
        self.assertEqual(wrong_line(ONE, 4, 0, "plan 4 0\n\n"), 2)
        self.assertEqual(wrong_line(ONE, 4, 0, "\n"), 1)

    def test_plans_of_no_samples(self):
        self.assertEqual((read_plan(ONE, 4, 0, "plan 4 0\n"), plan_text(ONE, 4, 0, []), short_text(ONE, 4, 0, []), short_lines(ONE, 4, 0, [])),
                         ([], "plan 4 0\n", "plan 4 0\n", 1))

    def test_ten_open_frames_and_eleven(self):
        one = Settings([1], [Mixer(1, [])], [], 0)
        for many in (9, 10, 11):
            text = f"plan 4 {2 ** many}\n" + "times 2\n" * many + "block 1 0\nstill\n" + "end\n" * many
            if many <= 10:
                self.assertEqual(read_plan(one, 4, 2 ** many, text), [(1, 0, [("still",)])] * 2 ** many)
                self.assertIsNone(wrong_line(one, 4, 2 ** many, text))
            else:
                self.assertEqual(wrong_line(one, 4, 2 ** many, text), 12)
                self.assertRaises(InvalidText, read_plan, one, 4, 2 ** many, text)
        # Ended ones count no longer.
        two = f"plan 4 {2 ** 11}\n" + ("times 2\n" * 10 + "block 1 0\nstill\n" + "end\n" * 10) * 2
        self.assertIsNone(wrong_line(one, 4, 2 ** 11, two))

    def test_frames_within_frames(self):
        one = Settings([1], [Mixer(1, [])], [], 0)
        text = "plan 4 11\ntimes 2\nblock 1 0\nstill\ntimes 3\nblock 1 0\nplain\nend\nend\ntimes 3\nblock 1 0\nstill\nend\n"
        still, plain = (1, 0, [("still",)]), (1, 0, [("plain",)])
        self.assertEqual(read_plan(one, 4, 11, text), ([still] + [plain] * 3) * 2 + [still] * 3)

    def test_what_a_frame_still_wants(self):
        # Six open frames, all of them empty, want a length as often as all of them together say.
        one = Settings([3], [Mixer(1, [])], [], 0)
        head = "plan 4 192\n" + "times 2\n" * 6
        self.assertEqual([wrong_line(one, 4, 192, head + more) for more in ("", "times 2\n", "block 3 0\nstill\n", "end\n")], [8, 8, 10, 8])
        self.assertEqual(wrong_line(one, 4, 4095, "plan 4 4095\ntimes 1365\n"), 3)
        self.assertEqual(wrong_line(one, 4, 4095, "plan 4 4095\ntimes 1366\n"), 2)
        for times in (FORTY, "1" + "0" * 39):
            self.assertEqual(wrong_line(one, 4, 4095, f"plan 4 4095\ntimes {times}\nblock 3 0\nstill\nend\n"), 2)

    def test_blocks_of_two_ways_and_guessed_kinds(self):
        head = "plan 4 4\nblock 4 1\n"
        for kinds, number in (("still\nplain\n", None), ("still\n", 4), ("guessed 0 0 5 1\nguessed 0 3 1\n", 3), ("guessed 0 0 4 1\nguessed 0 4 1\n", None),
                              ("guessed 0 0 4 1\nguessed 0 5 0\n", 4), ("guessed 1 0 1\nstill\n", 3), ("guessed 0 0 1 1 1\nstill\n", 3),
                              ("guessed 0 0\nstill\n", 3), ("still\nplain\nplain\n", 5), ("block 4 0\n", 3), ("still\ntimes 2\n", 4), ("end\n", 3),
                              ("guessed 0 0 1 1 1 1\nstill\n", 3), ("guessed 0 -1 1\nstill\n", 3), ("guessed -1 0 1\n", 3), ("guessed 0 0 -1\n", 3)):
            self.assertEqual(wrong_line(SIDE, 4, 4, head + kinds), number, kinds)
        self.assertEqual(wrong_line(SIDE, 4, 4, "plan 4 4\nblock 4 2\n"), 2)
        self.assertEqual(read_plan(SIDE, 4, 4, head + "guessed 0 0 4 1\nguessed 0 4 1\n"),
                         [(4, 1, [("guessed", 0, 0, [4, 1]), ("guessed", 0, 4, [1])])])

    def test_the_blocks_of_a_frame_are_apart(self):
        text = "plan 4 4\ntimes 2\nblock 2 0\nguessed 0 0 1\nguessed 0 0 1 2\nend\n"
        plan = read_plan(SIDE, 4, 4, text)
        found = lists_within(plan)
        self.assertEqual(len({id(one) for one in found}), len(found))
        plan[0][2][0][3].append(9)
        self.assertEqual(plan[1], (2, 0, [("guessed", 0, 0, [1]), ("guessed", 0, 0, [1, 2])]))

    def test_the_first_line(self):
        for text in ("plan 5 0\n", "plan 4 1\n", "plan 4 00\n", "plan  4 0\n", "plan 4 0 \n", "Plan 4 0\n", "plan 4\n", "plan 4 0"):
            self.assertEqual(wrong_line(ONE, 4, 0, text), 1)


class Let(unittest.TestCase):

    def test_all_plans_of_a_sound_are_let(self):
        sound = Sound(3, [[1, 1, 2, 2], [0, 0, 0, 0]])
        small = Settings([2], [Mixer(2, [])], [steps(1)], 0)
        for number in range(0, how_many_plans(small, sound, None), 97):
            plan = plan_at(small, sound, number)
            self.assertIs(is_let(small, 3, 4, plan), True)
            self.assertEqual(read_plan(small, 3, 4, plan_text(small, 3, 4, plan)), plan)
            self.assertEqual(read_plan(small, 3, 4, short_text(small, 3, 4, plan)), plan)

    def test_whether_sounds_fit_is_not_looked_at(self):
        self.assertIs(is_let(ONE, 4, 2, [(2, 0, [("still",)])]), True)
        self.assertIs(is_let(SIDE, 4, 2, [(2, 0, [("guessed", 0, 3, [1])] * 2)]), True)

    def test_lengths_of_the_settings_that_add_up(self):
        for lengths in itertools.chain(*[itertools.product(range(1, 5), repeat=many) for many in range(4)]):
            plan = [(length, 0, [("plain",)]) for length in lengths]
            for samples in range(7):
                self.assertIs(is_let(ONE, 4, samples, plan), sum(lengths) == samples and set(lengths) <= {2, 3})

    def test_bent(self):
        plan = [(2, 1, [("still",), ("guessed", 0, 1, [1, 0])]), (4, 0, [("plain",), ("plain",)])]
        self.assertIs(is_let(SIDE, 4, 6, plan), True)
        for value in bent(plan) + [plan[:1], plan * 2, [], [(6, 0, [("plain",)] * 2)], plan[:1] + [(4, 0, [("plain",), ("guessed", 0, 4, [1])])]]:
            self.assertIs(is_let(SIDE, 4, 6, value), False, value)


@functools.lru_cache(None)
def fewest_lines(words, each):
    """The fewest lines for words that have so many lines each, by trying every first item."""
    if not words:
        return 0
    return min(item_lines(words[:many], each) + fewest_lines(words[many:], each) for many in range(1, len(words) + 1))


@functools.lru_cache(None)
def item_lines(words, each):
    """The fewest lines of one block or frame for words, very many if there is none."""
    if len(words) == 1:
        return each
    parts = [many for many in range(1, len(words)) if len(words) % many == 0 and words[:many] * (len(words) // many) == words]
    return min((2 + fewest_lines(words[:many], each) for many in parts), default=10 ** 9)


class Short(unittest.TestCase):

    def look(self, settings, plan, each):
        samples = sum(block[0] for block in plan)
        text = short_text(settings, 4, samples, plan)
        self.assertEqual(read_plan(settings, 4, samples, text), plan)
        lines = 1 + fewest_lines(tuple(str(block) for block in plan), each)
        self.assertEqual((short_lines(settings, 4, samples, plan), text.count("\n")), (lines, lines))

    def test_all_rows_of_two_blocks(self):
        one = Settings([1], [Mixer(1, [])], [], 0)
        for many in range(10):
            for row in itertools.product([(1, 0, [("still",)]), (1, 0, [("plain",)])], repeat=many):
                self.look(one, list(row), 2)

    def test_no_text_has_fewer_lines(self):
        for samples in range(9):
            fewest = {}
            for lines, plan in all_texts(samples).items():
                fewest[str(plan)] = min(len(lines), fewest.get(str(plan), len(lines)))
            for lines, plan in all_texts(samples).items():
                self.assertEqual(short_lines(ONE, 4, samples, plan), fewest[str(plan)])

    def test_drawn_rows_with_frames_within_frames(self):
        drawn = Drawn(124)
        four = Settings([1, 2], [Mixer(4, [])], [steps(1)], 0)
        for settings in (Settings([1, 2], [Mixer(1, [])], [steps(1)], 0), four):
            ways = settings.ways()
            blocks = [(length, 0, [kind] * ways) for length in (1, 2) for kind in (("still",), ("guessed", 0, 0, [1]))]
            for _ in range(40):
                row = [drawn.item(blocks)]
                while len(row) < 24:
                    at = drawn.below(len(row))
                    row = row[:at] + row[at:] * drawn.between(1, 3) + [drawn.item(blocks)] * drawn.below(3) + row[:at]
                row = [(length, mixer, [tuple(list(part) if isinstance(part, list) else part for part in kind) for kind in kinds])
                       for length, mixer, kinds in row[:24]]
                self.look(settings, row, 1 + ways)

    def test_blocks_alike_but_for_one_width(self):
        plan = [(2, 0, [("guessed", 0, 0, [at % 2]), ("still",)]) for at in range(8)]
        self.look(SIDE, plan, 3)
        self.assertEqual(short_lines(SIDE, 4, 16, plan), 9)


class Limits(unittest.TestCase):

    def test_60_blocks(self):
        one = Settings([1], [Mixer(1, [])], [], 0)
        still, plain = (1, 0, [("still",)]), (1, 0, [("plain",)])
        for plan, lines in (([still] * 60, 5), ([still, plain] * 30, 7), ([still] * 59 + [plain], 7), (([still] * 3 + [plain] * 2) * 12, 11)):
            self.assertEqual(short_lines(one, 4, 60, plan), lines)
            self.assertEqual(read_plan(one, 4, 60, short_text(one, 4, 60, plan)), plan)
        drawn = Drawn(1240)
        for _ in range(3):
            plan = [drawn.item([still, plain]) for _ in range(60)]
            text = short_text(one, 4, 60, plan)
            self.assertEqual((read_plan(one, 4, 60, text), text.count("\n")), (plan, short_lines(one, 4, 60, plan)))

    def test_4095_samples(self):
        one = Settings([1, 4095], [Mixer(1, [])], [], 0)
        plan = [(1, 0, [("still",)])] * 4095
        text = plan_text(one, 4, 4095, plan)
        self.assertEqual(read_plan(one, 4, 4095, text), plan)
        self.assertEqual(wrong_line(one, 4, 4095, text + "block 1 0\n"), 2 + 2 * 4095)
        self.assertEqual(read_plan(one, 4, 4095, "plan 4 4095\ntimes 4095\nblock 1 0\nstill\nend\n"), plan)
        nested = "plan 4 4095\n" + f"times {FORTY}\n" * 10 + "block 1 0\nstill\n" + "end\n" * 10
        self.assertEqual(wrong_line(one, 4, 4095, nested), 2)


if __name__ == "__main__":
    unittest.main()
