"""All plans that settings let, counted by their sizes, and in order: plans by numbers and numbers of plans."""

from wholesound.arguments import check_count, check_within
from wholesound.blocks import OPENING_BITS, WORD_BITS, bench_for, fitting_sizes, greatest_width, is_still
from wholesound.blocks import possible_parts, rest_folds
from wholesound.courses import HEAD_BITS
from wholesound.errors import InvalidNumber, InvalidPlan
from wholesound.leastkinds import all_rows, costs_by_stretch, lows_of
from wholesound.powersums import add_all, all_pairs

GREATEST_SIZE = 2000


def runs_of(bench, row, bits):
    """The kinds that go for a row of so many bits, in order: tuples of a kind and how many there are of it.

    For kinds that are guessed the widths are left open: there stand the number of the parts and how many
    widths each may have.
    """
    found = [(("still",), 1)] if is_still(row) else []
    found.append((("plain",), 1))
    lows = lows_of(row, bits)
    for at in range(len(bench.all_guessers())):
        for low in lows:
            widths = greatest_width(bits, low) + 1
            for parts in possible_parts(bench, len(row)):
                found.append((("guessed", at, low, parts, widths), lists_of_widths(parts, widths)))
    return found


def lists_of_widths(parts, widths):
    """How many lists of so many items there are, each of so many."""
    many = 1
    for _ in range(parts):
        many *= widths
    return many


def kinds_of(runs):
    """How many kinds there are in all."""
    return sum([many for _, many in runs])


def kind_at(runs, number):
    """The kind with a number."""
    for kind, many in runs:
        if number < many:
            return with_widths(kind, number) if kind[0] == "guessed" else kind
        number -= many
    return None


def with_widths(kind, number):
    """The guessed kind with the list of widths that has a number."""
    _, at, low, parts, many = kind
    widths = []
    for _ in range(parts):
        widths.append(number % many)
        number //= many
    return ("guessed", at, low, widths[::-1])


def kind_number(runs, wanted):
    """The number of a kind."""
    ahead = 0
    for kind, many in runs:
        if kind[0] != "guessed" and kind == wanted:
            return ahead
        if kind[0] == "guessed" and kind[:3] == wanted[:3] and kind[3] == len(wanted[3]):
            return ahead + widths_number(kind, wanted[3])
        ahead += many
    return None


def widths_number(kind, widths):
    """The number of a list of widths."""
    number = 0
    for width in widths:
        number = number * kind[4] + width
    return number


class Choices:
    """All blocks that settings let of a sound, counted: from each place and for each length and mixer."""

    def __init__(self, settings, bench, sound):
        self._bench = bench
        self._lengths = settings.lengths()
        self._many = sound.many()
        self._rows = all_rows(bench, sound)
        self._behind = [0] * self._many + [1]
        for place in reversed(range(self._many)):
            self._behind[place] = sum([self.blocks(place, length) * self._behind[place + length]
                                       for length in self.lengths_at(place)])

    def lengths_at(self, place):
        """The lengths of the settings that stay within the sound."""
        return [length for length in self._lengths if place + length <= self._many]

    def all_runs(self, place, length, mixer):
        """For each way behind a mixer the kinds that go."""
        wide = self._bench.bits_of_ways(mixer)
        return [runs_of(self._bench, row[place:place + length], bits) for row, bits in zip(self._rows[mixer], wide)]

    def blocks_by_mixer(self, place, length):
        """How many blocks each mixer has."""
        found = []
        for mixer in range(len(self._rows)):
            many = 1
            for runs in self.all_runs(place, length, mixer):
                many *= kinds_of(runs)
            found.append(many)
        return found

    def blocks(self, place, length):
        """How many blocks of a length there are from a place on."""
        return sum(self.blocks_by_mixer(place, length))

    def plans(self):
        """How many plans there are in all."""
        return self._behind[0]

    def plan_with(self, number):
        """The plan with a number."""
        plan, place = [], 0
        while place < self._many:
            block, number = self.block_with(place, number)
            plan.append(block)
            place += block[0]
        return plan

    def block_with(self, place, number):
        """The first block of the plan with a number of all from a place on, and the number of what is behind it."""
        for length in self.lengths_at(place):
            behind = self._behind[place + length]
            for mixer, many in enumerate(self.blocks_by_mixer(place, length)):
                if number < many * behind:
                    return (self.block_of(place, length, mixer, number // behind), number % behind)
                number -= many * behind
        return None

    def block_of(self, place, length, mixer, number):
        """The block of a length and a mixer with a number."""
        kinds = []
        for runs in self.all_runs(place, length, mixer)[::-1]:
            kinds.append(kind_at(runs, number % kinds_of(runs)))
            number //= kinds_of(runs)
        return (length, mixer, kinds[::-1])

    def number_of_plan(self, plan):
        """How many plans stand ahead of one that is let."""
        ahead, place = 0, 0
        for block in plan:
            ahead += self.blocks_ahead(place, block)
            place += block[0]
        return ahead

    def blocks_ahead(self, place, block):
        """How many plans from a place on begin with a block that stands ahead of this one."""
        length, mixer, kinds = block
        ahead = 0
        for less in self.lengths_at(place):
            if less < length:
                ahead += self.blocks(place, less) * self._behind[place + less]
        own = 0
        for kind, runs in zip(kinds, self.all_runs(place, length, mixer)):
            own = own * kinds_of(runs) + kind_number(runs, kind)
        return ahead + (sum(self.blocks_by_mixer(place, length)[:mixer]) + own) * self._behind[place + length]

    def sizes_of_way(self, row, bits, most):
        """How many kinds of a way have each size up to `most`."""
        found = {}
        if is_still(row):
            add_all(found, {2 + bits: 1}, 0, most)
        add_all(found, {2 + bits * len(row): 1}, 0, most)
        for guesser in self._bench.all_guessers():
            for low in lows_of(row, bits):
                folds = rest_folds(guesser, bits - low, [sample >> low for sample in row])
                for parts in possible_parts(self._bench, len(row)):
                    costs = costs_by_stretch(folds, parts, greatest_width(bits, low))
                    add_all(found, sums_of(costs, most), 12 + 5 * parts, most)
        return found

    def sizes_of_blocks(self, place, length, most):
        """How many blocks of a length have each size up to `most`."""
        found = {}
        for mixer, rows in enumerate(self._rows):
            counts = {0: 1}
            for row, bits in zip(rows, self._bench.bits_of_ways(mixer)):
                counts = all_pairs(counts, self.sizes_of_way(row[place:place + length], bits, most), most)
            add_all(found, counts, OPENING_BITS + WORD_BITS, most)
        return found

    def sizes_of_plans(self, most):
        """How many plans have each size up to `most`, their heads left out."""
        behind = [{} for _ in range(self._many)] + [{0: 1}]
        for place in reversed(range(self._many)):
            for length in self.lengths_at(place):
                if behind[place + length] != {}:
                    blocks = self.sizes_of_blocks(place, length, most)
                    add_all(behind[place], all_pairs(blocks, behind[place + length], most), 0, most)
        return behind[0]


def sums_of(costs, most):
    """How many lists with an item of each row of costs have each sum up to `most`."""
    found = {0: 1}
    for row in costs:
        prices = {}
        for price in row:
            prices[price] = prices.get(price, 0) + 1
        found = all_pairs(found, prices, most)
    return found


def how_many_plans(settings, sound, size):
    """How many plans of at most this size are let, of any size for None."""
    bench = bench_for(settings, sound)
    if size is not None:
        check_within(size, 0, GREATEST_SIZE)
    choices = Choices(settings, bench, sound)
    if size is None:
        return choices.plans()
    return sum(list(choices.sizes_of_plans(size - HEAD_BITS).values())) if size >= HEAD_BITS else 0


def plan_at(settings, sound, number):
    """The plan with a number, of all that are let, in order."""
    bench = bench_for(settings, sound)
    check_count(number)
    choices = Choices(settings, bench, sound)
    if number >= choices.plans():
        raise InvalidNumber(number)
    return choices.plan_with(number)


def plan_number(settings, sound, plan):
    """The number of a plan that is let."""
    bench = bench_for(settings, sound)
    if fitting_sizes(bench, sound, plan) is None or any([block[0] not in settings.lengths() for block in plan]):
        raise InvalidPlan(plan)
    return Choices(settings, bench, sound).number_of_plan(plan)
