"""Lines of texts: words with one blank between two, numbers in their figures, and what single lines tell."""

from wholesound.arguments import is_within
from wholesound.guessers import GREATEST_SHIFT, GREATEST_WEIGHT, Guesser, MOST_WEIGHTS
from wholesound.mixers import MOST_WAYS, Mixer, is_step

MOST_FIGURES = 40


def line_of(words, numbers):
    """A line of words and numbers behind them."""
    return " ".join(words + [str(number) for number in numbers]) + "\n"


def lines_of(text):
    """The lines of a text without their line ends, None if it is none or does not end with a line end."""
    if not isinstance(text, str) or not text.endswith("\n"):
        return None
    return text.split("\n")[:-1]


def number_told(word):
    """The number that a word tells just as it has to stand, or None."""
    figures = word[1:] if word.startswith("-") else word
    if not 1 <= len(figures) <= MOST_FIGURES or not all([sign in "0123456789" for sign in figures]):
        return None
    if figures[0] == "0" and word != "0":
        return None
    return int(word)


def numbers_told(words):
    """The numbers that words tell, None if some of them is none."""
    numbers = [number_told(word) for word in words]
    return None if None in numbers else numbers


def numbers_behind(line, word):
    """The numbers that stand behind a word in a line, None if it is not such a line."""
    words = line.split(" ")
    return numbers_told(words[1:]) if words[0] == word else None


def guesser_line(guesser):
    """The line of a guesser."""
    return line_of(["guesser"], [guesser.shift()] + guesser.weights())


def guesser_told(line):
    """The guesser that a line tells, or None."""
    numbers = numbers_behind(line, "guesser")
    if not numbers or len(numbers) > 1 + MOST_WEIGHTS or not is_within(numbers[0], 0, GREATEST_SHIFT):
        return None
    if not all([is_within(weight, -GREATEST_WEIGHT, GREATEST_WEIGHT) for weight in numbers[1:]]):
        return None
    return Guesser(numbers[1:], numbers[0])


def mixer_lines(mixer):
    """The lines of a mixer, as one text."""
    steps = [step_line(step) for step in mixer.steps()]
    return line_of(["mixer"], [mixer.wide()]) + "".join(steps)


def step_line(step):
    """The line of a step."""
    if step[0] == "lift":
        return line_of(["lift"], [step[1], step[3]] + step[2])
    return line_of([step[0]], list(step[1:]))


def step_told(line, wide):
    """The step on so many ways that a line tells, or None."""
    word, numbers = line.split(" ")[0], numbers_told(line.split(" ")[1:])
    if numbers is None:
        return None
    step = tuple([word] + numbers)
    if word == "lift":
        step = (word, numbers[0], numbers[2:], numbers[1]) if len(numbers) > 2 else None
    return step if is_step(step, wide) else None


def mixer_told(lines):
    """The mixer that lines tell, or None."""
    numbers = numbers_behind(lines[0], "mixer")
    if not numbers or len(numbers) > 1 or not is_within(numbers[0], 1, MOST_WAYS):
        return None
    steps = [step_told(line, numbers[0]) for line in lines[1:]]
    return None if None in steps else Mixer(numbers[0], steps)


def price_line(price):
    """The line of a price, None standing for none."""
    return "price none\n" if price is None else line_of(["price"], [price])


def is_price_line(line):
    """Whether a line tells a price."""
    return line == "price none" or is_count_line(line, "price")


def is_count_line(line, word):
    """Whether a line tells one number of at least 0 behind a word."""
    numbers = numbers_behind(line, word)
    return numbers is not None and len(numbers) == 1 and numbers[0] >= 0


def price_told(line):
    """The price that a line tells."""
    return None if line == "price none" else numbers_behind(line, "price")[0]
