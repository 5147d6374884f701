"""For each function: good arguments, and for each argument wrong ones with their error.

A wrong argument is a value that the error has to tell, or a tuple `Told(value, told)` where the error
tells something else (an item of the value).
"""

from wholesound import errors as e
from wholesound import allsounds, carriers, checks, ever, guessers, healing, lifts, marks, mending, mixers, mixing
from wholesound import orders, plans, settings, shares, sounds, streams, stretches, weights
from wholesound.checks import Check
from wholesound.guessers import Guesser, steps
from wholesound.mixers import Mixer
from wholesound.settings import Settings
from wholesound.sounds import Sound

from tests.odd import no_bits, no_lists, no_numbers, no_objects, no_samples, numbers_but


class Told:
    def __init__(self, value, told):
        self.value = value
        self.told = told


class Call:
    """A function, good arguments by name in order (made anew each time), and wrong ones by name."""

    def __init__(self, function, good, **wrong):
        self.function = function
        self.good = good
        self.wrong = wrong

    def name(self):
        return f"{self.function.__module__}.{self.function.__name__}"

    def looked_at(self):
        """The names of the arguments in the order in which they are looked at."""
        return list(self.good())


class GapCall(Call):

    def looked_at(self):
        return ["depth", "one", "other"]


NUMBER = (e.InvalidNumber, no_numbers())
COUNT = (e.InvalidNumber, numbers_but(0, None))
GUESSER = (e.InvalidGuesser, no_objects(Guesser))
WHOLE = (e.InvalidGuesser, no_objects(Guesser) + [Guesser([1], 1), Guesser([2, -1], 15), Guesser([], 3)])
MIXER = (e.InvalidMixer, no_objects(Mixer))
SOUND = (e.InvalidSound, no_objects(Sound))
ROW = (e.InvalidRow, no_lists())
FOLDS = (e.InvalidFolds, no_lists() + [[-1], [0, 1, -5]])
WIDTH = (e.InvalidWidth, numbers_but(0, 120))
BITS = (e.InvalidBits, no_bits())
CHECK = (e.InvalidCheck, no_objects(Check))
SETTINGS = (e.InvalidSettings, no_objects(Settings))


def number(low, high):
    return (e.InvalidNumber, numbers_but(low, high))


def depth(most):
    return (e.InvalidDepth, numbers_but(1, most))


def samples(at):
    return (e.InvalidRow, no_samples(at))


def rule():
    return (e.InvalidWeights, no_lists() + [[32769], [-32769], [0, 10 ** 29], [0] * 9])


def firsts(at, many):
    return (e.InvalidRow, no_samples(at) + [[0] * (many + 1), [0] * (many - 1), [0] * 30])


def sound_calls():
    sound = Sound(4, [[3, 3, 5], [0, -8, 7]])
    steep = Sound(4, [[0] * 4093] * 2)
    many_ways = no_objects(list) + [[], [[0]] * 5]
    items = [Told([[0], way], way) for way in no_samples(4)] + [Told([way, [0]], way) for way in no_samples(4)]
    ways = many_ways + []
    unlike = [Sound(5, [[0], [0]]), Sound(4, [[0]]), Sound(4, [[0], [0], [0]]), steep, Sound(3, [[], []])]
    return [
        Call(sounds.wrap, lambda: {"number": -9, "depth": 4}, number=NUMBER, depth=depth(40)),
        Call(sounds.fold, lambda: {"number": -3}, number=NUMBER),
        Call(sounds.unfold, lambda: {"number": 5}, number=COUNT),
        Call(Sound, lambda: {"depth": 4, "ways": [[1, 2], [3, -8]]}, depth=depth(24), ways=(e.InvalidList, ways)),
        Call(Sound, lambda: {"depth": 4, "ways": [[1, 2], [3, -8]]}, depth=depth(24), ways=(e.InvalidRow, items)),
        Call(sounds.part, lambda: {"sound": sound, "low": 1, "high": 3}, sound=SOUND, low=number(0, 3), high=number(1, 3)),
        Call(sounds.joined, lambda: {"one": sound, "other": Sound(4, [[1], [2]])}, one=SOUND, other=SOUND),
        Call(sounds.joined, lambda: {"one": sound, "other": Sound(4, [[1], [2]])}, one=SOUND, other=(e.Unlike, unlike)),
        Call(sounds.number_bits, lambda: {"number": 6, "many": 4}, number=COUNT, many=number(0, 64)),
        Call(sounds.bits_number, lambda: {"bits": "0110"}, bits=(e.InvalidBits, no_bits() + ["0" * 65])),
    ]


def guesser_calls():
    items = [Told([1, bad, 2], bad) for bad in numbers_but(-2 ** 15, 2 ** 15)]
    items += [Told([bad, None], bad) for bad in numbers_but(-2 ** 15, 2 ** 15)]
    lists = no_objects(list) + [[0] * 9]
    two = {"one": Guesser([3], 1), "other": Guesser([5, 1], 2)}
    whole = {"one": steps(1), "other": Guesser([1, 2, -3], 0)}
    none = {"one": steps(0), "other": Guesser([], 0)}
    by, row = steps(2), [1, 3, 6, 7, -8]
    short = (e.InvalidRow, no_lists() + [[], [1]])
    return [
        Call(Guesser, lambda: {"weights": [2, -1], "shift": 1}, weights=(e.InvalidList, lists), shift=number(0, 15)),
        Call(Guesser, lambda: {"weights": [2, -1], "shift": 1}, weights=(e.InvalidItem, items), shift=number(0, 15)),
        Call(guessers.guess, lambda: {"guesser": by, "before": [4, 6]}, guesser=GUESSER, before=short),
        Call(guessers.steps, lambda: {"order": 3}, order=number(0, 8)),
        Call(guessers.rests, lambda: {"guesser": by, "depth": 4, "row": list(row)},
             guesser=GUESSER, depth=depth(32), row=samples(4)),
        Call(guessers.row_of, lambda: {"guesser": by, "depth": 4, "rests": list(row)},
             guesser=GUESSER, depth=depth(32), rests=samples(4)),
        Call(guessers.plain_rests, lambda: {"guesser": by, "row": list(row)}, guesser=GUESSER, row=ROW),
        Call(guessers.same_guess, lambda: dict(two), one=GUESSER, other=GUESSER),
        Call(guessers.normal, lambda: {"guesser": Guesser([2, 4, 0], 2)}, guesser=GUESSER),
        Call(guessers.parting_row, lambda: dict(two), one=GUESSER, other=GUESSER),
        Call(guessers.bounds, lambda: {"guesser": by, "depth": 4}, guesser=GUESSER, depth=depth(32)),
        Call(guessers.bound_rows, lambda: {"guesser": by, "depth": 4}, guesser=GUESSER, depth=depth(32)),
        Call(guessers.bits_enough, lambda: {"guesser": by, "depth": 4}, guesser=GUESSER, depth=depth(32)),
        Call(guessers.after, lambda: dict(whole), one=WHOLE, other=WHOLE),
        Call(guessers.leads_to, lambda: dict(whole), one=WHOLE, other=WHOLE),
        Call(guessers.same_rests, lambda: dict(whole, depth=3), one=WHOLE, other=WHOLE, depth=depth(32)),
        Call(guessers.parting_rests, lambda: dict(whole, depth=3), one=WHOLE, other=WHOLE, depth=depth(32)),
        Call(guessers.same_rests, lambda: dict(none, depth=3), one=WHOLE, other=WHOLE, depth=depth(32)),
        Call(guessers.parting_rests, lambda: dict(none, depth=3), one=WHOLE, other=WHOLE, depth=depth(32)),
        Call(guessers.tells, lambda: {"guesser": by, "row": list(row)}, guesser=GUESSER, row=ROW),
        Call(guessers.hangs, lambda: {"guesser": by, "depth": 4, "row": list(row), "place": 1},
             guesser=GUESSER, depth=depth(32), row=samples(4), place=number(0, 4)),
        Call(weights.best_weight, lambda: {"row": [1, 2, 1, 7, -4]}, row=ROW),
        Call(weights.is_best_weight, lambda: {"row": [1, 2, 1], "value": (1, Guesser([1], 0), [1, 2])}, row=ROW),
    ]


def healing_calls():
    by = Guesser([2, 3], 0)
    return [
        Call(healing.spoilt, lambda: {"guesser": by, "depth": 3, "place": 3, "change": 1, "many": 9},
             guesser=WHOLE, depth=depth(32), place=COUNT, change=NUMBER, many=number(4, None)),
        Call(healing.spoilt_by_bit, lambda: {"guesser": by, "depth": 3, "place": 3, "bit": 1, "many": 9},
             guesser=WHOLE, depth=depth(32), place=COUNT, bit=number(0, 2), many=number(4, None)),
        Call(healing.healed_at, lambda: {"guesser": Guesser([2, 4], 0), "depth": 3, "place": 3, "change": 1},
             guesser=WHOLE, depth=depth(32), place=COUNT, change=NUMBER),
        Call(healing.most_spoilt, lambda: {"guesser": Guesser([2, 4], 0), "depth": 3}, guesser=WHOLE, depth=depth(32)),
    ]


def ever_calls():
    two = {"depth": 4, "one": [1, 1], "firsts": [0, 1], "other": [2, 0, -1], "seconds": [0, 1, 1]}
    row = {"depth": 3, "row": [1, 2, -4, 0, 1]}
    at = depth(24)
    both = {"one": rule(), "firsts": firsts(4, 2), "other": rule(), "seconds": firsts(4, 3)}
    of_row = {"depth": at, "row": samples(3)}
    told = (e.InvalidWeights, no_lists())
    return [
        Call(ever.is_told, lambda: {"depth": 4, "weights": [1, 1], "row": [0, 1, 1, 2]},
             depth=at, weights=told, row=samples(4)),
        Call(ever.sample_at, lambda: {"depth": 4, "weights": [1, 1], "firsts": [0, 1], "number": 10},
             depth=at, weights=rule(), firsts=firsts(4, 2), number=number(0, 10 ** 18)),
        Call(ever.first_parted, lambda: dict(two), depth=at, **both),
        Call(ever.alike_from, lambda: dict(two), depth=at, **both),
        Call(ever.period, lambda: {"depth": 4, "weights": [1, 1], "firsts": [0, 1]},
             depth=at, weights=rule(), firsts=firsts(4, 2)),
        Call(ever.longest_period, lambda: {"depth": 4, "weights": [1, 1]}, depth=at, weights=rule()),
        Call(ever.returning, lambda: {"depth": 4, "weights": [1, 1], "number": 12},
             depth=at, weights=rule(), number=number(1, 10 ** 18)),
        Call(ever.leads_all, lambda: {"depth": 4, "one": [2, -1], "other": [1]}, depth=at, one=rule(), other=rule()),
        Call(ever.shortest, lambda: dict(row), **of_row),
        Call(ever.is_shortest, lambda: {"depth": 3, "row": [2, 1], "value": (2, [0, 0], [-4])}, **of_row),
        Call(ever.how_many_rules, lambda: dict(row, many=2), many=number(0, 5), **of_row),
        Call(ever.next_samples, lambda: dict(row, many=4), many=number(0, 5), **of_row),
        Call(ever.next_paper, lambda: dict(row, many=4), many=number(0, 5), **of_row),
        Call(ever.is_next_paper, lambda: dict(row, many=4, value=ever.next_paper(3, [1, 2, -4, 0, 1], 4)),
             many=number(0, 5), **of_row),
        Call(ever.shortest_whole, lambda: {"row": [2, 1, 3, 5]}, row=ROW),
        Call(ever.is_shortest_whole, lambda: {"row": [2, 1], "value": (2, [0, 0], [(1, 2)])}, row=ROW),
    ]


def no_steps(wide):
    """What is no step on so many ways, at least two."""
    weights = [0] + [1] * (wide - 1)
    lifts = [("lift", 0, weights), ("lift", 0, weights, 1, 1), ("lift", wide, weights, 1), ("lift", -1, weights, 1),
             ("lift", 0, tuple(weights), 1), ("lift", 0, weights + [1], 1), ("lift", 0, weights[1:], 1),
             ("lift", 1, weights, 1), ("lift", 0, weights, -1), ("lift", 0, weights, True), ("lift", 0, weights, None),
             ("lift", -1, [1] * (wide - 1) + [0], 1), ("lift", False, weights, 1), ("lift", 0, [False] + weights[1:], 1), ("lift", 0, [0] + [None] * (wide - 1), 1),
             ("lift", 0, [0] + [True] * (wide - 1), 1), ["lift", 0, weights, 1], ("lift",), ("lift", 0, None, 0)]
    turns = [("turn",), ("turn", 0, 0), ("turn", wide), ("turn", -1), ("turn", None), ("turn", True), ["turn", 0],
             ("turn", "0"), ("turn", [0])]
    swaps = [("swap", 0), ("swap", 0, 0), ("swap", 0, wide), ("swap", -1, 0), ("swap", 0, True), ["swap", 0, 1],
             ("swap", 0, 1, 0), ("swap", False, 1), ("swap", None, 1)]
    others = [(), ("move", 0), (0, 0), (None, 1), "turn", "", None, True, 0, [], {}, {"turn": 0}, (("turn", 0),),
              Mixer(1, []), Guesser([], 0), (Mixer(1, []), 0), (["turn"], 0)]
    return lifts + turns + swaps + others


def mixer_calls():
    side = Mixer(2, [("lift", 1, [-1, 0], 0), ("lift", 0, [0, 1], 1), ("turn", 0), ("swap", 0, 1)])
    other = Mixer(2, [("lift", 0, [0, 3], 1)])
    items = [Told([("turn", 0), bad, ("turn", 1)], bad) for bad in no_steps(2)]
    items += [Told([bad, None], bad) for bad in no_steps(2)]
    moment = (e.InvalidSamples, no_lists() + [[], [1], [1, 2, 3]])
    within = (e.InvalidSamples, no_samples(4) + [[], [1], [1, 2, 3]])
    good = lambda: {"wide": 2, "steps": [("turn", 0), ("lift", 1, [3, 0], 2), ("swap", 1, 0)]}
    unlike = [Mixer(1, []), Mixer(3, []), Mixer(4, [("turn", 3)])]
    two = {"one": side, "other": other}
    pairs = [mixers.joined_mixers, mixing.same_mix, mixing.parted_samples, mixing.commute]
    calls = [
        Call(Mixer, good, wide=number(1, 4), steps=(e.InvalidList, no_objects(list))),
        Call(Mixer, good, wide=number(1, 4), steps=(e.InvalidItem, items)),
        Call(mixers.mixed, lambda: {"mixer": side, "samples": [5, 8]}, mixer=MIXER, samples=moment),
        Call(mixers.unmixed, lambda: {"mixer": side, "samples": [5, 8]}, mixer=MIXER, samples=moment),
        Call(mixers.mixed_within, lambda: {"mixer": side, "depth": 4, "samples": [5, -8]},
             mixer=MIXER, depth=depth(32), samples=within),
        Call(mixers.unmixed_within, lambda: {"mixer": side, "depth": 4, "samples": [5, -8]},
             mixer=MIXER, depth=depth(32), samples=within),
    ]
    for function in (mixers.matrix, mixers.halvings, mixers.undoing, mixers.tidy, mixing.misses):
        calls.append(Call(function, lambda: {"mixer": side}, mixer=MIXER))
    for function in pairs:
        calls.append(Call(function, lambda: dict(two), one=MIXER, other=MIXER))
        calls.append(Call(function, lambda: dict(two), one=MIXER, other=(e.Unlike, unlike)))
    for function in (mixing.same_within, mixing.parted_within):
        calls.append(Call(function, lambda: dict(two, depth=4), one=MIXER, other=MIXER, depth=depth(32)))
        calls.append(Call(function, lambda: dict(two, depth=4), one=MIXER, other=(e.Unlike, unlike), depth=depth(32)))
    for function in (mixing.enough, mixing.on_the_way):
        calls.append(Call(function, lambda: {"mixer": side, "depth": 16}, mixer=MIXER, depth=depth(32)))
    return calls + box_calls(side)


def box_calls(side):
    good = (0, 3)
    boxes = [None, True, 3, "", (), (good, good), [], [good], [good] * 3, [good, None], [good, [0, 3]], [good, (0,)],
             [good, (0, 3, 3)], [good, (4, 3)], [(True, 3), good], [(0, True), good], [good, ("0", 3)], [good, (0, None)],
             {0: good, 1: good}, Mixer(2, []), [(0, 10 ** 29), (0, -1)]]
    ones = [None, True, 3, "", (), [], [[1, 0]], [[1, 0], [0, 1], [0, 0]], [[1, 0], [0]], [[1, 0], [0, 1, 0]],
            [[1, 0], (0, 1)], ((1, 0), (0, 1)), [[True, 0], [0, 1]], [[1, None], [0, 1]], [[1, 0], [0, "1"]],
            [[1, 0], [0, 2]], [[1, 1], [1, 1]], [[2, 1], [1, 2]], [[0, 0], [0, 0]], {}, Mixer(2, []), [[1, 0], None]]
    halved = [Mixer(2, [("lift", 0, [0, 2], 1)]), Mixer(2, [("turn", 0), ("lift", 0, [0, 0], 3)])]
    whole = Mixer(2, [("lift", 0, [0, -1], 0), ("lift", 1, [1, 0], 0)])
    return [
        Call(mixing.ranges, lambda: {"mixer": side, "boxes": [(0, 3), (-7, 10 ** 29)]},
             mixer=MIXER, boxes=(e.InvalidBoxes, boxes)),
        Call(lifts.fewest_lifts, lambda: {"numbers": [[3, 4], [2, 3]]}, numbers=(e.InvalidMatrix, ones)),
        Call(lifts.lifts_for, lambda: {"numbers": [[3, 4], [2, 3]]}, numbers=(e.InvalidMatrix, ones)),
        Call(lifts.comes_back, lambda: {"mixer": whole}, mixer=(e.InvalidMixer, no_objects(Mixer) + halved)),
    ]


def share_calls():
    counts = (e.InvalidCounts, no_lists() + [[-1], [4], [0, 3, 4]])
    totals = {"many": number(1, None), "total": COUNT}
    two = {"one": [3, 0, 5], "other": [4, 4]}
    rows = {"many": number(1, None), "bits": COUNT}
    calls = [
        Call(shares.price, lambda: {"folds": [0, 3], "width": 1}, folds=FOLDS, width=WIDTH),
        Call(shares.bit_counts, lambda: {"folds": [0, 3]}, folds=FOLDS),
        Call(shares.same_prices, lambda: dict(two), one=FOLDS, other=FOLDS),
        Call(shares.parting_width, lambda: dict(two), one=FOLDS, other=FOLDS),
        Call(shares.row_of_counts, lambda: {"many": 3, "counts": [2, 0, 1]}, many=COUNT, counts=counts),
        Call(shares.how_many_like, lambda: {"folds": [0, 3]}, folds=FOLDS),
        Call(shares.least_width, lambda: {"folds": [1, 3]}, folds=FOLDS),
        Call(shares.possible_widths, lambda: {"many": 2, "total": 4}, **totals),
        Call(shares.safest, lambda: {"many": 2, "total": 6}, **totals),
        Call(shares.how_many_least, lambda: {"many": 3, "bits": 2, "size": 5}, size=COUNT, **rows),
        Call(shares.how_many_with, lambda: {"many": 3, "bits": 2, "width": 1}, width=WIDTH, **rows),
        Call(shares.mean_least, lambda: {"many": 3, "bits": 2}, **rows),
    ]
    for function in (shares.price_bounds, shares.width_row, shares.loss, shares.loss_row):
        calls.append(Call(function, lambda: {"many": 3, "total": 10, "width": 1}, width=WIDTH, **totals))
    return calls


def stretch_calls():
    folds = {"folds": FOLDS}
    raw = (e.InvalidNumber, [value for value in numbers_but(0, None) if value is not None])
    cut = {"few": number(1, None), "cost": COUNT, "bits": raw}
    row = [0, 3, 9, 0, 1]
    gain = {"one": COUNT, "other": COUNT, "bits": COUNT}
    paper = stretches.least_cuts(row, 2, 3, 2)
    return [
        Call(stretches.written, lambda: {"folds": [0, 3], "width": 1}, width=WIDTH, **folds),
        Call(stretches.read_folds, lambda: {"bits": "0010111", "width": 1, "many": 2}, bits=BITS, width=WIDTH, many=COUNT),
        Call(stretches.readings, lambda: {"bits": "00000", "most": 4}, bits=BITS, most=WIDTH),
        Call(stretches.both_read, lambda: {"one": 2, "other": 1}, one=WIDTH, other=WIDTH),
        Call(stretches.turned_reading, lambda: {"folds": [0, 3], "width": 1, "at": 4}, at=number(0, 4), width=WIDTH, **folds),
        Call(stretches.least_cuts, lambda: {"folds": list(row), "few": 2, "cost": 3, "bits": 2}, **folds, **cut),
        Call(stretches.is_cuts_paper, lambda: {"folds": list(row), "few": 2, "cost": 3, "bits": 2, "value": paper}, **folds, **cut),
        Call(stretches.how_many_cuts, lambda: {"folds": list(row), "few": 2, "cost": 3, "bits": 2}, **folds, **cut),
        Call(stretches.greatest_gain, lambda: {"one": 2, "other": 3, "bits": 4}, **gain),
        Call(stretches.gain_rows, lambda: {"one": 2, "other": 3, "bits": 4}, **gain),
        Call(stretches.never_pays, lambda: {"one": 2, "other": 3, "bits": 4, "cost": 5}, cost=COUNT, **gain),
        Call(stretches.halves, lambda: {"folds": [0, 0, 7, 7], "most": 2}, most=COUNT, **folds),
        Call(stretches.least_half, lambda: {"folds": [0, 0, 7, 7], "most": 2, "cost": 1}, most=COUNT, cost=COUNT, **folds),
    ]


def allsound_calls():
    kept = {"depth": depth(24), "width": (e.InvalidWidth, numbers_but(0, 3))}
    many = number(0, 200)
    by = {"guesser": steps(1), "depth": 3, "width": 1}
    many_rows = allsounds.how_many(3, 1, 4, 12)
    long_row = (e.InvalidRow, no_samples(3) + [[0] * 201, [1, -4] * 150])
    apart = (e.InvalidWidth, numbers_but(1, 11))
    widths = {"one": (e.InvalidWidth, numbers_but(0, 3)), "other": (e.InvalidWidth, numbers_but(0, 3))}
    return [
        Call(allsounds.how_many, lambda: {"depth": 3, "width": 1, "many": 4, "size": 12}, many=many, size=COUNT, **kept),
        Call(allsounds.size_bounds, lambda: {"depth": 3, "width": 1, "many": 4}, many=many, **kept),
        Call(allsounds.row_at, lambda: dict(by, many=4, size=12, number=5),
             guesser=GUESSER, many=many, size=COUNT, number=number(0, many_rows - 1), **kept),
        Call(allsounds.number_of, lambda: dict(by, row=[3, -4, 0]), guesser=GUESSER, row=long_row, **kept),
        Call(allsounds.fair, lambda: {"depth": 3, "width": 1}, **kept),
        Call(allsounds.fair, lambda: {"depth": 11, "width": 1}, depth=depth(24), width=apart),
        Call(allsounds.mean, lambda: {"depth": 3, "width": 1}, **kept),
        Call(allsounds.least_means, lambda: {"depth": 3}, depth=depth(24)),
        GapCall(allsounds.gap, lambda: {"one": 0, "other": 1, "depth": 3}, depth=depth(24), **widths),
    ]


def no_places():
    return no_lists() + [[-1], [0, 0], [1, 0], [0, 5, 5], [0, 2, 1], [10 ** 18 + 1], [0, 10 ** 29], [-3, 0, 1]]


def check_calls():
    three = Check(3, 3)
    places = (e.InvalidPlaces, no_places())
    below = number(0, 7)
    far = number(0, 10 ** 18)
    no_shape = (e.InvalidPlaces, no_places() + [[], [0], [0, 1], [1, 2, 4], [0, 2], [0, 1, 3, 1001], [0, 1001]])
    lows = numbers_but(1, 15) + [2, 4, 14, 16, 17]
    calls = [
        Call(Check, lambda: {"width": 4, "low": 3}, width=number(1, 16), low=(e.InvalidNumber, lows)),
        Call(checks.power, lambda: {"check": three, "many": 10}, check=CHECK, many=far),
        Call(checks.joined_word, lambda: {"check": three, "one": 3, "other": 7, "many": 5},
             check=CHECK, one=below, other=below, many=far),
        Call(checks.turned_word, lambda: {"check": three, "one": 5, "places": [0, 4]}, check=CHECK, one=below, places=places),
        Call(checks.unseen, lambda: {"check": three, "places": [1, 2, 4]}, check=CHECK, places=places),
        Call(checks.order, lambda: {"check": three}, check=CHECK),
        Call(checks.all_odd, lambda: {"check": three}, check=CHECK),
        Call(checks.distance, lambda: {"check": three, "many": 4}, check=CHECK, many=far),
        Call(checks.least_unseen, lambda: {"check": three, "many": 4}, check=CHECK, many=far),
        Call(checks.longest, lambda: {"check": three, "few": 4}, check=CHECK, few=number(3, 5)),
        Call(checks.how_many_shapes, lambda: {"check": three, "span": 6}, check=CHECK, span=number(0, 1000)),
        Call(checks.shape_at, lambda: {"check": three, "span": 6, "number": 2},
             check=CHECK, span=number(0, 1000), number=number(0, 3)),
        Call(checks.shape_number, lambda: {"check": three, "places": [0, 3, 5, 6]}, check=CHECK, places=no_shape),
    ]
    for function in (checks.rest, checks.word, checks.sealed, checks.is_right):
        calls.append(Call(function, lambda: {"check": three, "bits": "11010"}, check=CHECK, bits=BITS))
    return calls


def mending_calls():
    three, four = Check(3, 3), Check(4, 13)
    lost = (e.InvalidPlaces, no_places() + [list(range(65)), list(range(0, 10 ** 18, 10 ** 16))])
    lossy = (e.InvalidBits, [value for value in no_bits() if value != "?"] + ["?2", "0 ?", ["?"]])
    narrow = (e.InvalidCheck, no_objects(Check) + [Check(11, 5), Check(16, 4107)])
    two = {"one": three, "other": four}
    both = {"one": CHECK, "other": CHECK}
    lists = checks.least_unseen(three, 8)
    return [
        Call(mending.can_fill, lambda: {"check": three, "places": [0, 4, 5]}, check=CHECK, places=lost),
        Call(mending.can_fill, lambda: {"check": three, "places": [0, 4, 5, 9]}, check=CHECK, places=lost),
        Call(mending.is_fill, lambda: {"check": three, "places": [0, 1, 7], "value": ("no", lists)}, check=CHECK, places=lost),
        Call(mending.how_many_filled, lambda: {"check": three, "bits": "1?1??"}, check=CHECK, bits=lossy),
        Call(mending.filled_at, lambda: {"check": three, "bits": "??1??", "number": 1},
             check=CHECK, bits=lossy, number=number(0, 1)),
        Call(mending.mends, lambda: {"check": three, "bits": "1111001", "most": 2}, check=CHECK, bits=BITS, most=number(0, 2)),
        Call(mending.how_many_unseen, lambda: {"check": three, "many": 7, "few": 3},
             check=narrow, many=number(0, 10 ** 18), few=number(0, 8)),
        Call(mending.chance, lambda: {"check": three, "many": 7, "top": 3, "under": 5},
             check=narrow, many=number(0, 60), top=number(0, 1000), under=number(3, 1000)),
        Call(mending.chance, lambda: {"check": three, "many": 7, "top": 0, "under": 1},
             check=narrow, many=number(0, 60), top=number(0, 1000), under=number(1, 1000)),
        Call(mending.also_right, lambda: dict(two), **both),
        Call(mending.parted_bits, lambda: dict(two), **both),
        Call(mending.together, lambda: dict(two), **both),
        Call(mending.shared, lambda: dict(two), **both),
        Call(mending.bits_with, lambda: dict(two, left=5, right=3), left=number(0, 7), right=number(0, 15), **both),
    ]


def settings_calls():
    one, two = Mixer(1, []), Mixer(2, [("turn", 1)])
    mix = Mixer(2, [("lift", 0, [0, 1], 1)])
    good = lambda: {"lengths": [2, 4], "mixers": [mix, two], "guessers": [steps(1), steps(2)], "parts": 1}
    lengths = no_lists() + [[], [0], [4096], [1, 1], [2, 1], [1, 2, 3, 4, 5, 6, 7], [0, 1], [1, 4096], [-1, 1]]
    many = no_objects(list) + [[], [one] * 9, (one,)]
    items = [Told([two, bad, one], bad) for bad in no_objects(Mixer) + [one, Mixer(3, [])]]
    items += [Told([bad, two], bad) for bad in no_objects(Mixer)]
    by = no_objects(list) + [[steps(1)] * 17, (steps(1),)]
    ones = [Told([steps(1), bad, None], bad) for bad in no_objects(Guesser)]
    wrong = {"lengths": (e.InvalidList, lengths), "parts": number(0, 4)}
    lists = {"mixers": (e.InvalidList, many), "guessers": (e.InvalidList, by)}
    members = {"mixers": (e.InvalidMixer, items), "guessers": (e.InvalidGuesser, ones)}
    return [
        Call(Settings, good, **wrong, **lists),
        Call(Settings, good, **wrong, **members),
        Call(settings.wide, lambda: {"settings": Settings([2], [mix, two], [], 0), "depth": 4},
             settings=SETTINGS, depth=depth(24)),
    ]


SIDE = Settings([2, 4], [Mixer(2, []), Mixer(2, [("lift", 1, [-1, 0], 0)])], [steps(1), steps(2)], 1)
PAIR = Sound(4, [[3, 3, 5, 6], [2, 2, 7, 7]])
FAR = Settings([2, 4], [Mixer(2, []), Mixer(2, [("lift", 0, [0, 2 ** 15], 0)])], [], 0)
UNLIKE = (e.Unlike, [Sound(4, [[1, 2]]), Sound(4, [[1]] * 3), Sound(4, [[]])])


def pair_plan():
    return [(2, 1, [("still",), ("guessed", 1, 0, [1])]), (2, 0, [("guessed", 0, 0, [1, 0]), ("still",)])]


def no_plans():
    """What is no plan that fits the pair."""
    good = pair_plan()
    bad = [good[:1], good[1:], good + good[:1], good[::-1], good + [(1, 0, [("plain",)] * 2)], [good], tuple(good)]
    still, plain = ("still",), ("plain",)
    for kind in (("stil",), (), ("still", 0), ["still"], ("guessed",), ("guessed", 2, 0, [1]), ("guessed", 0, 1, [1]),
                 ("guessed", 0, 4, [0]), ("guessed", -1, 0, [1]), ("guessed", 0, -1, [1]), ("guessed", 0, 0, [5]),
                 ("guessed", 0, 0, []), ("guessed", 0, 0, [1, 1, 1]), ("guessed", 0, 0, [1] * 4), ("guessed", 0, 0, (1,)),
                 ("guessed", 0, 0, [-1]), ("guessed", True, 0, [1]), ("guessed", 0, False, [1]), ("guessed", 0, 0, [True]),
                 ("guessed", 0, 0, [1], 0), ("guessed", 0, 0, None), (None,), None, "still", ("plain", 1), (still,)):
        bad += [[(4, 0, [kind, plain])], [(4, 0, [plain, kind])]]
    for block in ((0, 0, [plain, plain]), (-4, 0, [plain, plain]), (4, 2, [plain, plain]), (4, -1, [plain, plain]),
                  (4, 0, [plain]), (4, 0, [plain] * 3), (4, 0, (plain, plain)), (True, 0, [plain, plain]),
                  (4, False, [plain, plain]), (4, 0, [plain, plain], 0), (4, 0), [4, 0, [plain, plain]], (4, 0, None),
                  (None, 0, [plain, plain]), (4, None, [plain, plain]), None, (), 4, (4096, 0, [plain, plain]),
                  (4, 0, [still, plain]), (4, 0, [plain, still])):
        bad.append([block])
    return no_objects(list) + [[1], [None], [[]], []] + bad


def stream_calls():
    bits = streams.write(SIDE, PAIR, pair_plan())
    good = {"settings": SIDE, "sound": PAIR}
    first = {"settings": SETTINGS, "sound": SOUND}
    unlike = {"settings": SETTINGS, "sound": UNLIKE}
    plan = (e.InvalidPlan, no_plans())
    blocks = (e.InvalidPlan, [plan[0] for plan in no_plans() if isinstance(plan, list) and len(plan) == 1])
    wrong = (e.InvalidStream, no_bits() + ["", bits[:-1], bits + "0", "1" + bits[1:], bits[:27], bits[1:], bits[:80] + bits])
    told = {"settings": SETTINGS, "bits": BITS}
    block = (4, 1, [("guessed", 0, 0, [2]), ("plain",)])
    calls = []
    for way in (first, unlike):
        calls += [
            Call(streams.fits, lambda: dict(good, plan=pair_plan()), **way),
            Call(streams.write, lambda: dict(good, plan=pair_plan()), plan=plan, **way),
            Call(streams.sizes, lambda: dict(good, plan=pair_plan()), plan=plan, **way),
            Call(streams.block_bits, lambda: dict(good, first=7, block=block), first=number(0, 4091), block=blocks, **way),
        ]
    for function in (streams.rows_of, streams.read):
        calls.append(Call(function, lambda: {"settings": SIDE, "bits": bits}, settings=SETTINGS, bits=wrong))
    for function in (streams.mended, streams.wrong_at, streams.begun):
        calls.append(Call(function, lambda: {"settings": SIDE, "bits": bits[:-1]}, **told))
        calls.append(Call(function, lambda: {"settings": SIDE, "bits": bits}, **told))
    return calls + [
        Call(streams.block_at, lambda: {"settings": SIDE, "depth": 4, "bits": bits, "place": 27},
             depth=depth(24), place=number(0, len(bits)), **told),
        Call(streams.block_at, lambda: {"settings": FAR, "depth": 4, "bits": bits, "place": 27},
             depth=(e.InvalidDepth, numbers_but(1, 17)), place=number(0, len(bits)), **told),
        Call(streams.Reader, lambda: {"settings": SIDE}, settings=SETTINGS),
    ]


def plan_calls():
    good = {"settings": SIDE, "sound": PAIR}
    block = (4, 0, [("plain",), ("plain",)])
    not_let = [[(1, 0, [("plain",)] * 2), (3, 0, [("plain",)] * 2)]]
    told = plans.prices(SIDE, PAIR)
    calls = []
    for way in ({"settings": SETTINGS, "sound": SOUND}, {"settings": SETTINGS, "sound": UNLIKE}):
        calls += [
            Call(plans.least_block, lambda: dict(good, place=1, length=3), place=number(0, 3), length=number(1, 3), **way),
            Call(plans.least_plan, lambda: dict(good), **way),
            Call(plans.prices, lambda: dict(good), **way),
            Call(plans.is_prices, lambda: dict(good, value=list(told)), **way),
            Call(plans.spare, lambda: dict(good, plan=[block]), plan=(e.InvalidPlan, no_plans()), **way),
            Call(orders.how_many_plans, lambda: dict(good, size=200),
                 size=(e.InvalidNumber, [value for value in numbers_but(0, 2000) if value is not None]), **way),
            Call(orders.how_many_plans, lambda: dict(good, size=None),
                 size=(e.InvalidNumber, [value for value in numbers_but(0, 2000) if value is not None]), **way),
            Call(orders.plan_at, lambda: dict(good, number=11),
                 number=number(0, orders.how_many_plans(SIDE, PAIR, None) - 1), **way),
            Call(orders.plan_number, lambda: dict(good, plan=[block]), plan=(e.InvalidPlan, no_plans() + not_let), **way),
        ]
    return calls


def no_marks():
    return no_bits() + ["", "0", "1", "1" * 17, "01" * 10]


def mark_calls():
    mark = (e.InvalidMark, no_marks())
    keepable = (e.InvalidMark, no_marks() + ["10", "01", "110", "001", "1" * 15 + "0"])
    carrier = (e.InvalidMark, keepable[1] + ["11", "101", "1011011", "0" * 16])
    rows = (e.InvalidPieces, no_objects(list) + [[row] for row in no_bits()] + [["0", "1", 1], ["", ["0"]], [("0",)]])
    both = carriers.carried("100", ["1010", ""])
    none = no_bits() + ["", "10", "100" + "10" + "100", "0" + both, both + "0", "1" + both, "1001001", both[:-1]]
    two = {"one": "1011", "other": "1100"}
    calls = [
        Call(marks.how_many_free, lambda: {"many": 6}, many=number(2, 1000)),
        Call(marks.rows_without, lambda: {"mark": "1011", "many": 9}, mark=mark, many=number(0, 1000)),
        Call(carriers.bare, lambda: {"mark": "100", "bits": "101101"},
             mark=keepable, bits=(e.InvalidBits, no_bits() + ["10", "100", "1100", "010", "1011010", "0100101"])),
        Call(carriers.most_growth, lambda: {"mark": "100", "many": 9}, mark=keepable, many=number(0, 10 ** 18)),
        Call(carriers.most_row, lambda: {"mark": "100", "many": 9}, mark=keepable, many=number(0, 4000)),
        Call(carriers.growths, lambda: {"mark": "100", "many": 9}, mark=keepable, many=number(0, 60)),
        Call(carriers.sum_growth, lambda: {"mark": "100", "many": 9}, mark=keepable, many=number(0, 300)),
        Call(carriers.carried, lambda: {"mark": "100", "rows": ["1010", ""]}, mark=carrier, rows=rows),
        Call(carriers.pieces, lambda: {"mark": "100", "bits": both}, mark=carrier, bits=BITS),
        Call(carriers.uncarried, lambda: {"mark": "100", "bits": both}, mark=carrier, bits=(e.InvalidBits, none)),
    ]
    for function in (marks.borders, marks.is_free, marks.is_keepable):
        calls.append(Call(function, lambda: {"mark": "1011011"}, mark=mark))
    for function in (marks.same_marks, marks.parting_length):
        calls.append(Call(function, lambda: dict(two), one=mark, other=mark))
    for function in (carriers.stuffed, carriers.growth):
        calls.append(Call(function, lambda: {"mark": "100", "bits": "1010"}, mark=keepable, bits=BITS))
    for function in (carriers.same_growths, carriers.parting_growth):
        calls.append(Call(function, lambda: dict(two, one="1011", other="1100"), one=keepable, other=keepable))
    return calls


def first_calls():
    """Those of the modules up to the carriers; `tests.morecalls` has the others."""
    return (sound_calls() + guesser_calls() + healing_calls() + ever_calls() + mixer_calls() + share_calls()
            + stretch_calls() + allsound_calls() + check_calls() + mending_calls() + settings_calls()
            + stream_calls() + plan_calls() + mark_calls())
