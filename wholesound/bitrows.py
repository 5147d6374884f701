"""Rows of bits and the numbers that they tell, for callers that have checked their arguments already."""


def bits_of(number, many):
    """The lowest bits of a count, so many, the highest one first."""
    return "".join(["1" if number >> at & 1 else "0" for at in reversed(range(many))])


def number_of(bits):
    """The number that bits tell, 0 for none."""
    number = 0
    for sign in bits:
        number = 2 * number + (1 if sign == "1" else 0)
    return number


def turned_at(bits, at):
    """The bits with another one at a place, counted from the beginning."""
    return bits[:at] + ("0" if bits[at] == "1" else "1") + bits[at + 1:]


def fold_bits(number, width):
    """The bits of a fold at a width: as many ones as it is worth there, a nought, and its low bits."""
    return "1" * (number >> width) + "0" + bits_of(number, width)


def folds_read(bits, place, width, most):
    """The first folds that bits tell at a width from a place on, at most so many, and the places behind each."""
    folds, ends = [], []
    while len(folds) < most:
        nought = bits.find("0", place)
        end = nought + 1 + width
        if nought < 0 or end > len(bits):
            break
        folds.append((nought - place << width) + number_of(bits[nought + 1:end]))
        ends.append(end)
        place = end
    return (folds, ends)
