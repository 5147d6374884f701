"""Texts of guessers, mixers, settings, prices and plans: written, read back, and told where they go wrong."""

from wholesound.arguments import check_within, is_count, is_within
from wholesound.blocks import bench_at, is_block
from wholesound.errors import InvalidItem, InvalidList, InvalidPlan, InvalidText
from wholesound.frames import PlanReader, Shortest, block_lines, head_line, wrong_number
from wholesound.guessers import check_guesser
from wholesound.lines import guesser_line, guesser_told, is_price_line, line_of, lines_of, mixer_lines, mixer_told
from wholesound.lines import numbers_behind, price_line, price_told
from wholesound.mixers import check_mixer
from wholesound.settings import MOST_GUESSERS, MOST_MIXERS, MOST_PARTS, Settings, check_settings, is_lengths
from wholesound.sounds import MOST_SAMPLES


def guesser_text(guesser):
    """The text of a guesser."""
    check_guesser(guesser)
    return guesser_line(guesser)


def mixer_text(mixer):
    """The text of a mixer."""
    check_mixer(mixer)
    return mixer_lines(mixer)


def settings_text(settings):
    """The text of settings."""
    check_settings(settings)
    head = line_of(["settings"], []) + line_of(["lengths"], settings.lengths()) + line_of(["parts"], [settings.parts()])
    guessers = [guesser_line(guesser) for guesser in settings.guessers()]
    return head + "".join(guessers + [mixer_lines(mixer) for mixer in settings.mixers()])


def prices_text(prices):
    """The text of prices."""
    if not isinstance(prices, list):
        raise InvalidList(prices)
    for price in prices:
        if price is not None and not is_count(price):
            raise InvalidItem(price)
    return line_of(["prices"], []) + "".join([price_line(price) for price in prices])


def read_guesser(text):
    """The guesser that has this very text."""
    lines = lines_of(text)
    guesser = guesser_told(lines[0]) if lines is not None and len(lines) == 1 else None
    if guesser is None:
        raise InvalidText(text)
    return guesser


def read_mixer(text):
    """The mixer that has this very text."""
    lines = lines_of(text)
    mixer = None if lines is None else mixer_told(lines)
    if mixer is None:
        raise InvalidText(text)
    return mixer


def read_settings(text):
    """The settings that have this very text."""
    lines = lines_of(text)
    settings = None if lines is None or len(lines) < 4 else settings_told(lines)
    if settings is None:
        raise InvalidText(text)
    return settings


def settings_told(lines):
    """The settings that lines, at least four of them, tell, or None."""
    lengths, parts = numbers_behind(lines[1], "lengths"), numbers_behind(lines[2], "parts")
    if lines[0] != "settings" or not is_lengths(lengths) or parts is None or len(parts) != 1:
        return None
    starts = [at for at in range(3, len(lines)) if lines[at].startswith("mixer ")]
    if not is_within(parts[0], 0, MOST_PARTS) or not 1 <= len(starts) <= MOST_MIXERS:
        return None
    guessers = [guesser_told(line) for line in lines[3:starts[0]]]
    mixers = [mixer_told(lines[low:high]) for low, high in zip(starts, starts[1:] + [len(lines)])]
    if len(guessers) > MOST_GUESSERS or None in guessers or None in mixers:
        return None
    if any([mixer.wide() != mixers[0].wide() for mixer in mixers]):
        return None
    return Settings(lengths, mixers, guessers, parts[0])


def read_prices(text):
    """The prices that have this very text."""
    lines = lines_of(text)
    if lines is None or lines[0] != "prices" or not all([is_price_line(line) for line in lines[1:]]):
        raise InvalidText(text)
    return [price_told(line) for line in lines[1:]]


def bench_for_texts(settings, depth, samples):
    """The bench of texts of plans; refused are what are no settings, no depth that they reach, no number of samples."""
    bench = bench_at(settings, depth)
    check_within(samples, 0, MOST_SAMPLES)
    return bench


def lets(settings, bench, samples, value):
    """Whether a value is a plan of so many samples, of right blocks with lengths of the settings."""
    if not isinstance(value, list) or not all([is_block(bench, block) for block in value]):
        return False
    lengths = settings.lengths()
    return all([block[0] in lengths for block in value]) and sum([block[0] for block in value]) == samples


def is_let(settings, depth, samples, value):
    """Whether a value is a plan that settings let for so many samples, whatever sounds fit."""
    return lets(settings, bench_for_texts(settings, depth, samples), samples, value)


def check_let(settings, depth, samples, plan):
    """Refuse what is no plan that settings let for so many samples."""
    if not is_let(settings, depth, samples, plan):
        raise InvalidPlan(plan)


def plan_text(settings, depth, samples, plan):
    """The text of a plan."""
    check_let(settings, depth, samples, plan)
    return head_line(depth, samples) + "".join([block_lines(block) for block in plan])


def reader_for(settings, depth, samples):
    """What reads the lines of the text of a plan."""
    bench = bench_for_texts(settings, depth, samples)
    return PlanReader(bench, settings.lengths(), depth, samples)


def read_plan(settings, depth, samples, text):
    """The plan that a text tells, with or without frames."""
    reader = reader_for(settings, depth, samples)
    if not isinstance(text, str) or wrong_number(reader, text) is not None:
        raise InvalidText(text)
    return reader.plan()


def shortest_for(settings, depth, samples, plan):
    """The fewest lines for the blocks of a plan; refused is what is none that is let."""
    check_let(settings, depth, samples, plan)
    return Shortest([block_lines(block) for block in plan], 1 + settings.ways())


def short_text(settings, depth, samples, plan):
    """A text that tells a plan in as few lines as any does."""
    return head_line(depth, samples) + shortest_for(settings, depth, samples, plan).text(0, len(plan))


def short_lines(settings, depth, samples, plan):
    """How many lines the shortest texts of a plan have."""
    return 1 + shortest_for(settings, depth, samples, plan).lines()


def wrong_line(settings, depth, samples, text):
    """The number of the first line with which no text that is read goes on, or None."""
    reader = reader_for(settings, depth, samples)
    if not isinstance(text, str):
        raise InvalidText(text)
    return wrong_number(reader, text)
