"""Seeking: tables of the starts of blocks by which one never has far to go, counted, by numbers and with papers."""

from wholesound.arguments import check_within, is_just, is_number, is_numbers, is_within
from wholesound.errors import InvalidNumber, InvalidStarts

MOST_STARTS = 60


def is_starts(value):
    """Whether a value is an ascending list of different numbers, the first one 0."""
    if not is_numbers(value) or not 1 <= len(value) <= MOST_STARTS or value[0] != 0:
        return False
    return all([one < other for one, other in zip(value, value[1:])])


def check_table(starts, total, many):
    """Refuse what are no starts, what does not end behind them, or no number of them."""
    if not is_starts(starts):
        raise InvalidStarts(starts)
    if not is_number(total) or total <= starts[-1]:
        raise InvalidNumber(total)
    check_within(many, 1, len(starts))


def ends_of(starts, total):
    """The number behind the last sample of each block."""
    return starts[1:] + [total]


def sizes_of(starts, total):
    """How many samples each block has."""
    return [end - start for start, end in zip(starts, ends_of(starts, total))]


def fewest_within(starts, total, step):
    """The fewest positions of a table with at most this step, None if a block alone is greater."""
    if max(sizes_of(starts, total)) > step:
        return None
    positions, begin = [0], 0
    for at, end in enumerate(ends_of(starts, total)):
        if end - begin > step:
            # So far the step is kept, but not up to the end of this block: it has to stand in the table.
            positions.append(at)
            begin = starts[at]
    return positions


def least_of(starts, total, many):
    """The least step of all tables of so many starts."""
    steps = sorted([end - start for at, start in enumerate(starts) for end in ends_of(starts, total)[at:]])
    low, high = 0, len(steps) - 1
    while low < high:
        middle = (low + high) // 2
        positions = fewest_within(starts, total, steps[middle])
        if positions is None or len(positions) > many:
            low = middle + 1
        else:
            high = middle
    return steps[low]


def least_step(starts, total, many):
    """The least step of all tables of so many starts."""
    check_table(starts, total, many)
    return least_of(starts, total, many)


def table(starts, total, many):
    """A table of so many starts that has the least step."""
    check_table(starts, total, many)
    positions = fewest_within(starts, total, least_of(starts, total, many))
    # More starts never make the step greater.
    others = [at for at in range(len(starts)) if at not in positions]
    return [starts[at] for at in sorted(positions + others[:many - len(positions)])]


def counts_behind(starts, total, many):
    """By the number of starts that are still to come and by a position: how many tables of the least step go on so."""
    step = least_of(starts, total, many)
    found = [[1 if total - start <= step else 0 for start in starts]]
    for _ in range(many - 1):
        behind = found[-1]
        found.append([sum([behind[at] for at in next_positions(starts, place, step)]) for place in range(len(starts))])
    return found


def next_positions(starts, place, step):
    """The positions behind a place that are at most a step away."""
    return [at for at in range(place + 1, len(starts)) if starts[at] - starts[place] <= step]


def how_many_tables(starts, total, many):
    """How many tables of so many starts have the least step."""
    check_table(starts, total, many)
    return counts_behind(starts, total, many)[-1][0]


def table_at(starts, total, many, number):
    """The table with a number, in order, of those that have the least step."""
    check_table(starts, total, many)
    counts, step = counts_behind(starts, total, many), least_of(starts, total, many)
    check_within(number, 0, counts[-1][0] - 1)
    place, found = 0, [0]
    for behind in reversed(counts[:-1]):
        for at in next_positions(starts, place, step):
            if number < behind[at]:
                place = at
                break
            number -= behind[at]
        found.append(starts[place])
    return found


def table_paper(starts, total, many):
    """A tuple that tells why no table of so many starts has a lesser step."""
    check_table(starts, total, many)
    step, sizes = least_of(starts, total, many), sizes_of(starts, total)
    if step in sizes:
        return ("one", sizes.index(step))
    # With a lesser step a table needs more starts: from each of these to the next one it is too far.
    positions = fewest_within(starts, total, step - 1)
    return ("runs", list(zip(positions[:many], positions[1:])))


def is_runs(starts, total, step, many, value):
    """Whether a value is so many tuples of positions, one behind the other, each with so many samples at least."""
    if not isinstance(value, list) or len(value) != many:
        return False
    ends, behind = ends_of(starts, total), 0
    for run in value:
        if not isinstance(run, tuple) or len(run) != 2 or not is_numbers(list(run)):
            return False
        low, high = run
        if not behind <= low < high < len(starts) or ends[high] - starts[low] < step:
            return False
        behind = high
    return True


def is_table_paper(starts, total, many, value):
    """Whether a value is such a tuple."""
    check_table(starts, total, many)
    if not isinstance(value, tuple) or len(value) != 2:
        return False
    step = least_of(starts, total, many)
    kind, told = value
    if is_just(kind, "one"):
        return is_within(told, 0, len(starts) - 1) and sizes_of(starts, total)[told] == step
    return is_just(kind, "runs") and is_runs(starts, total, step, many, told)
