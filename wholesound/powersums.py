"""Counts by sizes: dicts that tell how many there are of each size, sizes that none has left out."""

MOST_PAIRS = 20000


def packed(counts, slot):
    """The counts of a list side by side in one number, each in a slot of so many bits."""
    if len(counts) == 1:
        return counts[0]
    half = len(counts) // 2
    return packed(counts[:half], slot) | packed(counts[half:], slot) << (slot * half)


def unpacked(number, many, slot):
    """So many counts that stand side by side in one number."""
    if many == 1:
        return [number]
    half = many // 2
    below = (1 << (slot * half)) - 1
    return unpacked(number & below, half, slot) + unpacked(number >> (slot * half), many - half, slot)


def all_pairs(one, other, most):
    """How many pairs, one of each, have each sum of sizes up to `most`."""
    if len(one) * len(other) > MOST_PAIRS:
        return pairs_by_product(one, other, most)
    found = {}
    for size, many in one.items():
        for more, times in other.items():
            if size + more <= most:
                found[size + more] = found.get(size + more, 0) + many * times
    return found


def pairs_by_product(one, other, most):
    """The same by a single product of two great numbers, which is quicker for many sizes."""
    low, high = min(list(one.keys())), min(list(other.keys()))
    if low + high > most:
        return {}
    left, right = row_from(one, low, most - high), row_from(other, high, most - low)
    # No count of pairs is greater than this product, so that no slot runs over into the next one.
    slot = (sum(left) * sum(right)).bit_length()
    counts = unpacked(packed(left, slot) * packed(right, slot), len(left) + len(right) - 1, slot)
    return {low + high + at: told for at, told in enumerate(counts) if told and low + high + at <= most}


def row_from(counts, low, most):
    """The counts of the sizes from the least one on, up to the greatest one but no further than `most`, as a list."""
    return [counts.get(size, 0) for size in range(low, min([max(list(counts.keys())), most]) + 1)]


def add_all(counts, more, by, most):
    """Put further counts, each size greater by a number, to counts, as far as the sizes come to `most`."""
    for size, many in more.items():
        if size + by <= most:
            counts[size + by] = counts.get(size + by, 0) + many
