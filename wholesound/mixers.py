"""Mixers: steps that turn the numbers of several ways at one moment into others, and back."""

from wholesound.arguments import check_depth, check_within, is_count, is_numbers, is_within
from wholesound.errors import InvalidItem, InvalidList, InvalidMixer, InvalidSamples, Unlike
from wholesound.quotients import fraction
from wholesound.samples import is_samples_of, wrapped

MOST_WAYS = 4
GREATEST_DEPTH = 32


class Mixer:
    """How many ways there are, and the steps, one behind the other."""

    def __init__(self, wide, steps):
        check_within(wide, 1, MOST_WAYS)
        if not isinstance(steps, list):
            raise InvalidList(steps)
        for step in steps:
            if not is_step(step, wide):
                raise InvalidItem(step)
        self._wide = wide
        self._steps = [copied(step) for step in steps]

    def wide(self):
        """How many ways there are."""
        return self._wide

    def steps(self):
        """The steps, one behind the other."""
        return [copied(step) for step in self._steps]

    def __eq__(self, other):
        return isinstance(other, Mixer) and self._wide == other._wide and self._steps == other._steps


def is_step(value, wide):
    """Whether a value is a step on so many ways."""
    if not isinstance(value, tuple) or len(value) == 0:
        return False
    if value[0] == "lift":
        return is_lift(value, wide)
    if value[0] == "turn":
        return len(value) == 2 and is_within(value[1], 0, wide - 1)
    if value[0] == "swap":
        return len(value) == 3 and all([is_within(at, 0, wide - 1) for at in value[1:]]) and value[1] != value[2]
    return False


def is_lift(value, wide):
    """Whether a tuple that begins with "lift" is a step on so many ways."""
    if len(value) != 4 or not is_within(value[1], 0, wide - 1) or not is_count(value[3]):
        return False
    return is_numbers(value[2]) and len(value[2]) == wide and value[2][value[1]] == 0


def copied(step):
    """The step, with a list of weights of its own."""
    return ("lift", step[1], list(step[2]), step[3]) if step[0] == "lift" else step


def check_mixer(mixer):
    """Refuse what is no mixer."""
    if not isinstance(mixer, Mixer):
        raise InvalidMixer(mixer)


def check_mixers(one, other):
    """Refuse what are no two mixers of as many ways."""
    check_mixer(one)
    check_mixer(other)
    if one.wide() != other.wide():
        raise Unlike(other)


def check_moment(mixer, samples):
    """Refuse what is no list of whole numbers, one a way."""
    if not is_numbers(samples) or len(samples) != mixer.wide():
        raise InvalidSamples(samples)


def check_moment_within(mixer, depth, samples):
    """Refuse what is no depth, or no list of samples of it, one a way."""
    check_depth(depth, GREATEST_DEPTH)
    if not is_samples_of(samples, depth, mixer.wide()):
        raise InvalidSamples(samples)


def lifted(step, samples):
    """What a lift adds to its way."""
    return sum([weight * number for weight, number in zip(step[2], samples)]) >> step[3]


def step_done(step, samples, sign):
    """The way that a step changes and its number behind it: lifts add with the sign 1, and take with -1."""
    at = step[1]
    if step[0] == "turn":
        return (at, -samples[at])
    return (at, samples[at] + sign * lifted(step, samples))


def run(steps, samples, sign, depth):
    """The numbers behind steps, wrapped at once unless the depth is None."""
    samples = list(samples)
    for step in steps:
        if step[0] == "swap":
            samples[step[1]], samples[step[2]] = samples[step[2]], samples[step[1]]
        else:
            at, number = step_done(step, samples, sign)
            samples[at] = number if depth is None else wrapped(number, depth)
    return samples


def mixed(mixer, samples):
    """The numbers of all ways behind the steps."""
    check_mixer(mixer)
    check_moment(mixer, samples)
    return run(mixer.steps(), samples, 1, None)


def unmixed(mixer, samples):
    """The numbers that are mixed to these."""
    check_mixer(mixer)
    check_moment(mixer, samples)
    return run(mixer.steps()[::-1], samples, -1, None)


def mixed_within(mixer, depth, samples):
    """The numbers behind the steps, each one wrapped to the depth at once."""
    check_mixer(mixer)
    check_moment_within(mixer, depth, samples)
    return run(mixer.steps(), samples, 1, depth)


def unmixed_within(mixer, depth, samples):
    """The samples of a depth that are mixed within it to these."""
    check_mixer(mixer)
    check_moment_within(mixer, depth, samples)
    return run(mixer.steps()[::-1], samples, -1, depth)


def halved(steps):
    """The sum of the shifts of steps."""
    return sum([step[3] for step in steps if step[0] == "lift"])


def whole_matrix(steps, wide):
    """What steps would do if nothing were rounded, times 2 to the power of their halvings."""
    scale = 1 << halved(steps)
    rows = [[scale if at == way else 0 for at in range(wide)] for way in range(wide)]
    for step in steps:
        if step[0] == "swap":
            rows[step[1]], rows[step[2]] = rows[step[2]], rows[step[1]]
        else:
            # Each column is what one way alone comes to; the scale keeps all of it whole.
            for way in range(wide):
                rows[step[1]][way] = step_done(step, [row[way] for row in rows], 1)[1]
    return rows


def matrix(mixer):
    """A row of fractions for each way: what the steps would do if nothing were rounded."""
    check_mixer(mixer)
    steps = mixer.steps()
    scale = 1 << halved(steps)
    return [[fraction(number, scale) for number in row] for row in whole_matrix(steps, mixer.wide())]


def halvings(mixer):
    """The sum of the shifts."""
    check_mixer(mixer)
    return halved(mixer.steps())


def undoing(mixer):
    """The mixer that leads back what the given one mixes."""
    check_mixer(mixer)
    steps = []
    for step in reversed(mixer.steps()):
        if step[0] != "lift":
            steps.append(step)
        elif step[3] == 0:
            steps.append(("lift", step[1], [-weight for weight in step[2]], 0))
        else:
            # Rounded down once more the weights would not take what they gave: so the way is turned.
            steps += [("turn", step[1]), step, ("turn", step[1])]
    return Mixer(mixer.wide(), steps)


def joined_mixers(one, other):
    """The mixer with the steps of both, one behind the other."""
    check_mixers(one, other)
    return Mixer(one.wide(), one.steps() + other.steps())


def tidy(mixer):
    """The mixer that is left when steps that do nothing are gone, and those that can be one are one."""
    check_mixer(mixer)
    steps = mixer.steps()
    at = 0
    while at < len(steps):
        left = tidied(steps[at:at + 2])
        if left is None:
            at += 1
        else:
            # The step ahead may now have another one behind it: all ahead of that stays as it is.
            steps[at:at + 2] = left
            at = max([at - 1, 0])
    return Mixer(mixer.wide(), steps)


def tidied(pair):
    """What a step and the one behind it, if there is one, become at once, or None."""
    step, behind = pair[0], pair[1:]
    if step[0] == "lift" and not any(step[2]):
        return behind
    if step[0] == "lift" and step[3] > 0 and not any([weight & 1 for weight in step[2]]):
        return [("lift", step[1], [weight // 2 for weight in step[2]], step[3] - 1)] + behind
    if behind == [] or behind[0][0] != step[0]:
        return None
    if step[0] == "lift":
        return one_lift(step, behind[0])
    # A swap is the same one whichever way is named first.
    return [] if sorted(step[1:]) == sorted(behind[0][1:]) else None


def one_lift(step, behind):
    """The one lift, in a list, that two lifts are, or None."""
    if step[1] != behind[1] or min([step[3], behind[3]]) > 0:
        return None
    shift = max([step[3], behind[3]])
    less, more = shift - step[3], shift - behind[3]
    weights = [(one << less) + (other << more) for one, other in zip(step[2], behind[2])]
    return [("lift", step[1], weights, shift)]
