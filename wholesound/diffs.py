"""Diffs: a sound told of older ones by the fewest pieces, or by the least price, with what proves that."""

from wholesound.arguments import check_within, is_just, is_numbers
from wholesound.edits import Edit, MOST_SOURCES, edit_of, moments_in, moments_told
from wholesound.errors import InvalidItem, InvalidList, Unlike
from wholesound.sounds import Sound, check_sound

GREATEST_PRICE = 1000000


def check_alike(olds, new):
    """Refuse what are no older sounds, no new one, or not all of one depth and as many ways."""
    if not isinstance(olds, list) or not 1 <= len(olds) <= MOST_SOURCES:
        raise InvalidList(olds)
    for sound in olds:
        if not isinstance(sound, Sound):
            raise InvalidItem(sound)
    check_sound(new)
    for sound in olds + [new]:
        if sound.depth() != olds[0].depth() or len(sound.ways()) != len(olds[0].ways()):
            raise Unlike(sound)


def moments_of(sound):
    """The moments of a sound."""
    ways = sound.ways()
    return [tuple([way[at] for way in ways]) for at in range(sound.many())]


def longest_matches(olds, new):
    """For each place of the new sound: how many moments from it on stand in an old one in a row, which and where."""
    wanted = moments_of(new)
    best = [(0, 0, 0)] * len(wanted)
    for source, old in enumerate(olds):
        moments = moments_of(old)
        matches = [0] * (len(wanted) + 1)
        for first in reversed(range(len(moments))):
            # Those of the place behind in the old sound stand there still, one place farther on.
            for at, moment in enumerate(wanted):
                matches[at] = matches[at + 1] + 1 if moment == moments[first] else 0
                if matches[at] > best[at][0]:
                    best[at] = (matches[at], source, first)
    return best


def lengths_of(sounds):
    """How many moments each sound has."""
    return [sound.many() for sound in sounds]


def never_told(matches):
    """The first place whose moment is in none of the old sounds, or None."""
    places = [at for at, match in enumerate(matches) if match[0] == 0]
    return places[0] if places else None


def fewest(olds, new):
    """The first place that old sounds never tell, or the edit that tells the new one by the fewest pieces."""
    check_alike(olds, new)
    matches = longest_matches(olds, new)
    never = never_told(matches)
    if never is not None:
        return ("never", never)
    pieces, stretches, at = [], [], 0
    while at < len(matches):
        many, source, first = matches[at]
        pieces.append(("keep", source, first, many))
        stretches.append((at, many + 1))
        at += many
    return ("pieces", edit_of(lengths_of(olds), len(new.ways()), pieces), stretches[:-1])


def is_fewest(olds, new, value):
    """Whether a value tells the first place that is never told, or an edit with the fewest pieces and its stretches."""
    check_alike(olds, new)
    matches = longest_matches(olds, new)
    never = never_told(matches)
    if never is not None:
        return is_just(value, ("never", never))
    if not isinstance(value, tuple) or len(value) != 3 or not is_just(value[0], "pieces"):
        return False
    _, edit, stretches = value
    if not is_edit_to(olds, new, edit) or any([piece[0] == "given" for piece in edit.pieces()]):
        return False
    return is_stretches(matches, stretches) and len(stretches) == max([len(edit.pieces()) - 1, 0])


def is_edit_to(olds, new, value):
    """Whether a value is an edit that tells the new sound of the old ones."""
    if not isinstance(value, Edit) or value.lengths() != lengths_of(olds) or value.ways() != len(new.ways()):
        return False
    moments = [moments_of(old) for old in olds]
    found = [tuple(place) if source is None else moments[source][place]
             for source, place in moments_told(value.pieces())]
    return found == moments_of(new)


def is_stretches(matches, value):
    """Whether a value is a list of stretches of the new sound, one behind the other, that stand in no old one."""
    if not isinstance(value, list):
        return False
    last = 0
    for stretch in value:
        if not isinstance(stretch, tuple) or len(stretch) != 2 or not is_numbers(list(stretch)):
            return False
        first, many = stretch
        if not last <= first < len(matches) or not matches[first][0] < many <= len(matches) - first:
            return False
        last = first + many - 1
    return True


def check_prices(one, each):
    """Refuse what are no prices of pieces and of given moments."""
    check_within(one, 1, GREATEST_PRICE)
    check_within(each, 1, GREATEST_PRICE)


def least_edit(olds, new, one, each):
    """The edit with the least price that tells the new sound, the price, and numbers that prove it."""
    check_alike(olds, new)
    check_prices(one, each)
    matches, ways = longest_matches(olds, new), new.ways()
    prices, pieces = [0], [None]
    for end in range(1, len(matches) + 1):
        found = [(prices[at] + step_price(matches, at, end, one, each), at) for at in range(end)]
        price, at = min(found)
        prices.append(price)
        pieces.append((at, step_piece(matches, ways, at, end)))
    return (edit_of(lengths_of(olds), len(ways), pieces_up_to(pieces)), prices[-1], prices)


def step_price(matches, low, high, one, each):
    """The price of the piece that tells the moments from `low` on that are below `high`."""
    return one if matches[low][0] >= high - low else one + each * (high - low)


def step_piece(matches, ways, low, high):
    """The piece that tells these moments at its price."""
    many, source, first = matches[low]
    if many >= high - low:
        return ("keep", source, first, high - low)
    return ("given", [way[low:high] for way in ways])


def pieces_up_to(pieces):
    """The pieces up to the last place, out of those with which the least price comes to each place."""
    found, at = [], len(pieces) - 1
    while at > 0:
        at, piece = pieces[at]
        found.append(piece)
    return found[::-1]


def price_of(edit, one, each):
    """The price of an edit."""
    pieces = edit.pieces()
    return one * len(pieces) + each * sum([moments_in(piece) for piece in pieces if piece[0] == "given"])


def is_least_edit(olds, new, one, each, value):
    """Whether a value is such an edit, its price, and such numbers."""
    check_alike(olds, new)
    check_prices(one, each)
    if not isinstance(value, tuple) or len(value) != 3:
        return False
    edit, price, prices = value
    if not is_edit_to(olds, new, edit) or not is_just(price, price_of(edit, one, each)):
        return False
    matches = longest_matches(olds, new)
    if not is_numbers(prices) or len(prices) != len(matches) + 1 or prices[0] != 0 or prices[-1] != price:
        return False
    return not any([prices[end] - prices[at] > step_price(matches, at, end, one, each)
                    for end in range(len(prices)) for at in range(end)])
