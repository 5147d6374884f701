"""Good and wrong arguments, as in `tests.calls`, for the functions of all further modules."""

from wholesound import cuts, damage, diffs, edits, finding, live, seeking, tapes, texts, trims
from wholesound import errors as e
from wholesound.carriers import carried
from wholesound.edits import Edit
from wholesound.guessers import Guesser, steps
from wholesound.mixers import Mixer
from wholesound.settings import Settings
from wholesound.sounds import Sound
from wholesound.streams import block_bits, write

from tests.calls import BITS, COUNT, Call, FAR, GUESSER, MIXER, PAIR, SETTINGS, SIDE, SOUND, Told, depth, first_calls
from tests.calls import number, pair_plan
from tests.odd import no_bits, no_lists, no_numbers, no_objects, numbers_but

EDIT = (e.InvalidEdit, no_objects(Edit))
CARRIER = (e.InvalidMark, no_bits() + ["", "0", "1" * 17, "10", "110", "11", "101", "1011011", "0" * 16])


def no_hurts(many):
    """What is no hurt of a row of so many bits, at least one."""
    turns = [("turn",), ("turn", -1), ("turn", many), ("turn", True), ("turn", None), ("turn", 0, 0), ["turn", 0]]
    puts = [("put", 0), ("put", -1, "0"), ("put", many + 1, "0"), ("put", 0, 0), ("put", 0, ""), ("put", 0, "00"),
            ("put", 0, "2"), ("put", True, "0"), ("put", 0, None), ["put", 0, "0"], ("put", 0, "0", 0), ("put", 0, ["0"])]
    loses = [("lose",), ("lose", many), ("lose", -1), ("lose", "0"), ("lose", 0, "0"), ["lose", 0], ("lose", False)]
    others = [(), ("none", 0), (0, 0), (None,), "turn", "", None, True, 0, [], {}, (("turn", 0),), Guesser([], 0),
              (["turn"], 0), ("turn ", 0), (True, 0), (None, 0, "1")]
    return turns + puts + loses + others


def damage_calls():
    items = [Told([("turn", 0), bad, ("turn", 9)], bad) for bad in no_hurts(3)]
    items += [Told([("put", 0, "1"), bad], bad) for bad in (("turn", 4), ("lose", 4), ("put", 5, "0"))]
    good = lambda: {"bits": "101", "hurts": [("turn", 1), ("put", 3, "1"), ("lose", 0)]}
    counts = (e.InvalidCounts, no_lists() + [[-1], [4096], [0] * 61, [1, 10 ** 29], [0, 5, -3]])
    rows = {"lengths": counts, "many": COUNT}
    calls = [
        Call(damage.hurt, good, bits=BITS, hurts=(e.InvalidList, no_objects(list))),
        Call(damage.hurt, good, bits=BITS, hurts=(e.InvalidItem, items)),
        Call(damage.is_lost_paper, lambda: {"lengths": [5, 1, 4], "many": 1, "value": (5, [5, 0, 4])}, **rows),
    ]
    for function in (damage.most_lost, damage.worst_marks, damage.lost_paper):
        calls.append(Call(function, lambda: {"lengths": [5, 1, 4], "many": 1}, **rows))
    return calls


def no_blocks():
    """What are no blocks."""
    good = (0, 0, 4)
    bad = [None, True, 4, "", (), [0, 0, 4], (0, 0), (0, 0, 4, 0), (-1, 0, 4), (0, -1, 4), (0, 4096, 4), (0, 0, 0),
           (0, 0, 4096), (0, 0, -1), (True, 0, 4), (0, False, 4), (0, 0, True), ("0", 0, 4), (0, None, 4), (0, 0, [4]),
           Sound(4, [[1]]), {0: 0}]
    lists = [[one] for one in bad] + [[good, one] for one in bad] + [[one, (9, 4, 4)] for one in bad]
    return no_objects(list) + [[1]] + lists + [[good, good], [good, (0, 4, 4)], [(3, 0, 4), (2, 4, 4)], (good,)]


def finding_calls():
    bits = carried("100", [block_bits(SIDE, PAIR, 3, pair_plan_block()), "0101"])
    find = {"settings": SETTINGS, "mark": CARRIER, "bits": BITS}
    blocks = (e.InvalidFound, no_blocks())
    told = [(0, 0, 4), (20, 8, 4), (40, 4, 4), (60, 2, 8)]
    two, ways = [(0, 2, 2), (9, 6, 1), (10, 3, 4)], [[[5, -1]], [[7], [8]], [[1, 2, 3, 4]]]
    good = lambda: {"blocks": list(two), "samples": [[list(way) for way in one] for one in ways], "chosen": [0, 1],
                    "many": 8}
    lists = no_lists() + [[], ways[:2], ways + [[[1]]], ways[::-1], tuple(ways)]
    lists += [[one] + ways[1:] for one in (None, [], [[]], [[1]], [[1, 2, 3]], ([1, 2],), [(1, 2)], [[1, 2], [1]], "ab",
                                           [[1, 2], None], {0: [1, 2]}, [1, 2])]
    none = no_lists() + [[-1], [3], [0, 0], [1, 0], [0, 2], [0, 1, 2], [1, 2], [0, 1, 3], (0, 1)]
    calls = [
        Call(finding.found, lambda: {"settings": SIDE, "depth": 4, "mark": "100", "bits": bits}, depth=depth(24), **find),
        Call(finding.found, lambda: {"settings": FAR, "depth": 4, "mark": "100", "bits": bits},
             depth=(e.InvalidDepth, numbers_but(1, 17)), **find),
        Call(finding.is_kept_paper, lambda: {"blocks": list(told), "value": [4, 8, 8, 8]}, blocks=blocks),
        Call(finding.is_most_paper, lambda: {"blocks": list(told), "value": [(3, 4), (7, 4), (11, 4)]}, blocks=blocks),
        Call(finding.patched, good, blocks=blocks, samples=(e.InvalidList, lists), chosen=(e.InvalidList, none),
             many=number(7, 8190)),
        Call(finding.patched, lambda: dict(good(), chosen=[]), blocks=blocks, samples=(e.InvalidList, lists),
             chosen=(e.InvalidList, none), many=number(0, 8190)),
    ]
    for function in (finding.kept, finding.most_in_order, finding.how_many_kept, finding.in_all, finding.in_some,
                     finding.kept_paper, finding.most_kept, finding.most_in_any, finding.most_paper):
        calls.append(Call(function, lambda: {"blocks": list(told)}, blocks=blocks))
    return calls


def pair_plan_block():
    return (4, 1, [("guessed", 0, 0, [2]), ("plain",)])


def pair_still():
    return [(2, 1, [("still",), ("plain",)])]


def seeking_calls():
    starts = no_lists() + [[], [1], [0, 0], [0, 2, 1], [-1, 0], [0, 5, 5], list(range(61)), [0, 3, -3], (0, 3, 4)]
    wrong = {"starts": (e.InvalidStarts, starts), "total": number(10, None), "many": number(1, 4)}
    good = lambda: {"starts": [0, 3, 4, 9], "total": 10, "many": 2}
    calls = [
        Call(seeking.table_at, lambda: dict(good(), many=3, number=0), **wrong, number=number(0, 0)),
        Call(seeking.table_at, lambda: dict(good(), starts=[0, 2, 4, 6], total=12, many=3, number=1),
             **dict(wrong, total=number(7, None)), number=number(0, 1)),
        Call(seeking.is_table_paper, lambda: dict(good(), value=("runs", [(0, 2), (2, 3)])), **wrong),
        Call(seeking.is_table_paper, lambda: dict(good(), many=3, value=("one", 2)), **wrong),
    ]
    for function in (seeking.least_step, seeking.table, seeking.how_many_tables, seeking.table_paper):
        calls.append(Call(function, good, **wrong))
    return calls


def no_pieces():
    """What is no piece of an edit of sources of 4, 0 and 2 moments with two ways."""
    keeps = [("keep",), ("keep", 0, 0), ("keep", 0, 0, 1, 0), ("keep", 3, 0, 1), ("keep", -1, 0, 1), ("keep", 0, 4, 1),
             ("keep", 0, -1, 1), ("keep", 0, 0, 0), ("keep", 0, 0, 5), ("keep", 0, 3, 2), ("keep", 1, 0, 1), ("keep", 1, 0, 0),
             ("keep", 0, 0, -1), ("keep", True, 0, 1), ("keep", 0, False, 1), ("keep", 0, 0, True), ("keep", None, 0, 1),
             ("keep", 0, "0", 1), ("keep", 0, 0, [1]), ["keep", 0, 0, 1], ("keep", 0, 0, 10 ** 29)]
    givens = [("given",), ("given", []), ("given", [[1]]), ("given", [[1], [1], [1]]), ("given", [[], []]),
              ("given", [[1], [1, 2]]), ("given", [[1], [True]]), ("given", [[2 ** 23], [0]]), ("given", [[0], [-2 ** 23 - 1]]),
              ("given", [[1], (1,)]), ("given", ([1], [1])), ("given", None), ("given", [[1], None]), ["given", [[1], [1]]],
              ("given", [[1], [1]], 0), ("given", [[1], ["1"]]), ("given", {0: [1]})]
    others = [(), ("told", 0, 0, 1), (0, 0, 0, 1), "keep", None, True, 0, [], {}, Sound(4, [[1]]), (["keep"], 0, 0, 1),
              (None, [[1], [1]]), ("keep", [[1], [1]]), ("given", 0, 0, 1)]
    return keeps + givens + others


def edit_calls():
    good = lambda: {"lengths": [4, 0, 2], "ways": 2,
                    "pieces": [("keep", 0, 1, 2), ("given", [[7], [-7]]), ("keep", 2, 0, 2), ("keep", 0, 0, 1)]}
    lengths = no_objects(list) + [[], [1] * 9, (4, 0)]
    items = [Told([4, bad, 2], bad) for bad in numbers_but(0, 4095)] + [Told([bad, None], bad) for bad in numbers_but(0, 4095)]
    many = no_objects(list) + [[("keep", 0, 0, 1), ("keep", 0, 2, 1)] * 31, [None] * 61, (("keep", 0, 0, 1),)]
    many += [[("given", [[0] * 4000] * 2), ("keep", 0, 0, 4)] * 2, [("given", [[0] * 4095] * 2), ("keep", 0, 0, 1)]]
    bad = [Told([("keep", 0, 0, 4), one, None], one) for one in no_pieces()] + [Told([one], one) for one in no_pieces()]
    wrong = {"ways": number(1, 4)}
    one = Edit(**good())
    sounds = [Sound(4, [[1, 2, 3, 4], [5, 6, 7, -8]]), Sound(4, [[], []]), Sound(4, [[0, 1], [2, 3]])]
    loud = [Sound(3, [[0] * many] * 2) for many in (4, 0, 2)]
    no_sounds = no_objects(list) + [[], sounds[:2], sounds + sounds[:1], tuple(sounds)]
    parts = [Told([sounds[0], one, None], one) for one in no_objects(Sound) + [sounds[0], Sound(4, [[]]), Sound(4, [[], [], []])]]
    parts += [Told([one] + sounds[1:], one) for one in (sounds[2], Sound(4, [[1, 2, 3]] * 2), Sound(4, [[1, 2, 3, 4]]))]
    apart = [Told([sounds[0], one, loud[2]], one) for one in (Sound(3, [[], []]), Sound(5, [[], []]))]
    two = lambda: {"first": one, "second": Edit([6], 2, [("keep", 0, 3, 3), ("keep", 0, 0, 5)])}
    unfit = [Edit([5], 2, []), Edit([7], 2, []), Edit([6], 1, []), Edit([6, 0], 2, []), Edit([6, 6], 2, [])]
    other = Edit([4, 0, 2], 2, [("keep", 0, 1, 3)])
    unlike = [Edit([4, 0, 3], 2, []), Edit([4, 0, 2], 1, []), Edit([4, 0], 2, []), Edit([4, 2, 0], 2, [])]
    back = Edit([3], 1, [("keep", 0, 1, 2), ("keep", 0, 0, 2)])
    source = number(0, 2)
    return [
        Call(Edit, good, lengths=(e.InvalidList, lengths), pieces=(e.InvalidList, many), **wrong),
        Call(Edit, good, lengths=(e.InvalidItem, items), pieces=(e.InvalidPiece, bad), **wrong),
        Call(edits.told, lambda: {"edit": one, "sounds": list(sounds)}, edit=EDIT, sounds=(e.InvalidList, no_sounds)),
        Call(edits.told, lambda: {"edit": one, "sounds": list(sounds)}, edit=EDIT, sounds=(e.InvalidItem, parts)),
        Call(edits.told, lambda: {"edit": one, "sounds": list(sounds)}, edit=EDIT, sounds=(e.Unlike, apart)),
        Call(edits.told, lambda: {"edit": one, "sounds": list(sounds)}, edit=EDIT, sounds=(e.InvalidDepth, [Told(loud, 3)])),
        Call(edits.identity, lambda: {"length": 5, "ways": 2}, length=number(0, 4095), ways=number(1, 4)),
        Call(edits.then, two, first=EDIT, second=(e.InvalidEdit, no_objects(Edit) + unfit)),
        Call(edits.parted, lambda: {"one": one, "other": other}, one=EDIT, other=EDIT),
        Call(edits.parted, lambda: {"one": one, "other": other}, one=EDIT, other=(e.Unlike, unlike)),
        Call(edits.recovered, lambda: {"edit": one, "source": 0}, edit=EDIT, source=source),
        Call(edits.recovered, lambda: {"edit": back, "source": 0}, edit=EDIT, source=number(0, 0)),
        Call(edits.is_recovery, lambda: {"edit": one, "source": 0, "value": ("lost", [3])}, edit=EDIT, source=source),
        Call(edits.is_recovery, lambda: {"edit": back, "source": 0, "value": edits.recovered(back, 0)},
             edit=EDIT, source=number(0, 0)),
    ]


def diff_calls():
    olds = [Sound(3, [[0, 1, 1, 0]]), Sound(3, [[2, 2]])]
    new = Sound(3, [[1, 0, 2, 1, 1, 1]])
    good = lambda: {"olds": list(olds), "new": new}
    priced = lambda: dict(good(), one=2, each=1)
    lists = no_objects(list) + [[], olds * 5, tuple(olds)]
    items = [Told([olds[0], bad, None], bad) for bad in no_objects(Sound)]
    apart = [Sound(4, [[1]]), Sound(3, [[1], [1]]), Sound(2, [[]])]
    unlike = [Told([olds[0], bad, Sound(5, [[0]])], bad) for bad in apart]
    calls = []
    for one in ((e.InvalidList, lists), (e.InvalidItem, items), (e.Unlike, unlike)):
        wrong = {"olds": one, "new": SOUND} if one[0] is not e.Unlike else {"olds": one}
        if one[0] is e.Unlike:
            # The new sound is looked at ahead of whether the sounds are alike.
            wrong["new"] = (e.Unlike, apart)
        prices = dict(wrong, one=number(1, 10 ** 6), each=number(1, 10 ** 6))
        calls += [
            Call(diffs.fewest, good, **wrong),
            Call(diffs.is_fewest, lambda: dict(good(), value=diffs.fewest(olds, new)), **wrong),
            Call(diffs.is_fewest, lambda: {"olds": olds[:1], "new": new, "value": ("never", 2)}, **wrong),
            Call(diffs.least_edit, priced, **prices),
            Call(diffs.is_least_edit, lambda: dict(priced(), value=diffs.least_edit(olds, new, 2, 1)), **prices),
        ]
    return calls


def cut_calls():
    edit = Edit([6, 2], 1, [("keep", 0, 0, 2), ("keep", 0, 3, 3), ("given", [[1]]), ("keep", 1, 0, 2)])
    good = lambda: {"edit": edit, "cuts": [[0, 3, 6], [0, 2]]}
    lists = no_objects(list) + [[], [[0, 6]], [[0, 6], [0, 2], [0]], ([0, 6], [0, 2])]
    bad = no_lists() + [[], [0], [6], [1, 6], [0, 5], [0, 7], [0, 3, 3, 6], [0, 4, 2, 6], [-1, 0, 6], [0, 6, 7], (0, 6), [6, 0]]
    items = [Told([one, None], one) for one in bad] + [Told([[0, 6], one], one) for one in no_lists() + [[0, 6], [0], [0, 1]]]
    calls = []
    for function in (cuts.kept_blocks, cuts.anew):
        calls.append(Call(function, good, edit=EDIT, cuts=(e.InvalidList, lists)))
        calls.append(Call(function, good, edit=EDIT, cuts=(e.InvalidItem, items)))
    one = Edit([6], 1, [("keep", 0, 0, 2), ("keep", 0, 3, 3)])
    best = lambda: {"length": 6, "edits": [one, Edit([6], 2, [])], "many": 2}
    many = (e.InvalidList, no_objects(list) + [[one] * 21, (one,)])
    members = [Told([one, bad, None], bad) for bad in no_objects(Edit) + [edit, Edit([5], 1, []), Edit([6, 6], 1, [])]]
    for wrong in (many, (e.InvalidItem, members)):
        rows = {"length": number(0, 4095), "edits": wrong, "many": number(1, 60)}
        calls.append(Call(cuts.best_cuts, best, **rows))
        calls.append(Call(cuts.is_best_cuts, lambda: dict(best(), value=cuts.best_cuts(6, [one], 2)), **rows))
    none = lambda: {"length": 0, "edits": [], "many": 0}
    nothing = {"length": number(0, 4095), "edits": many, "many": number(0, 60)}
    calls.append(Call(cuts.best_cuts, none, **nothing))
    calls.append(Call(cuts.is_best_cuts, lambda: dict(none(), value=([0], 0, [[0]])), **nothing))
    return calls


def trim_calls():
    sound = Sound(4, [[0, 2, -4, 0], [0, 0, 2, 0]])
    which = [Told([0, bad, None], bad) for bad in numbers_but(0, 1)] + [Told([bad], bad) for bad in numbers_but(0, 1)]
    lists = no_objects(list) + [[], [0] * 5, (0,), [None] * 5]
    quiet = {"sound": SOUND, "loud": COUNT, "many": number(1, None)}
    return [
        Call(trims.ways_of, lambda: {"sound": sound, "which": [1, 0, 1]}, sound=SOUND, which=(e.InvalidList, lists)),
        Call(trims.ways_of, lambda: {"sound": sound, "which": [1, 0, 1]}, sound=SOUND, which=(e.InvalidItem, which)),
        Call(trims.raised, lambda: {"sound": sound, "many": 3}, sound=SOUND, many=number(0, 20)),
        Call(trims.lowered, lambda: {"sound": sound, "many": 1}, sound=SOUND, many=number(0, 3)),
        Call(trims.stills, lambda: {"sound": sound, "loud": 2, "many": 2}, **quiet),
        Call(trims.trimmed, lambda: {"sound": sound, "loud": 2, "many": 2, "left": 1}, left=number(0, 1), **quiet),
    ]


def tape_calls():
    bits = write(SIDE, PAIR, pair_plan())
    short = write(SIDE, Sound(4, [[1, 1], [2, 2]]), [(2, 0, [("still",), ("still",)])])
    deeper = write(SIDE, Sound(5, [[1, 1], [2, 2]]), [(2, 0, [("still",), ("still",)])])
    edit = Edit([4, 2], 2, [("keep", 0, 2, 2), ("given", [[7, 7], [0, 1]]), ("keep", 1, 0, 2)])
    loud = Edit([4, 2], 2, [("keep", 0, 2, 2), ("given", [[0], [8]]), ("keep", 0, 0, 1)])
    good = lambda: {"settings": SIDE, "streams": [bits, short], "edit": edit}
    lists = no_objects(list) + [[], [bits] * 9, (bits, short)]
    bad = no_bits() + ["", bits[:-1], bits + "0", "1" + bits[1:]]
    items = [Told([bits, one, None], one) for one in bad]
    unfit = [Edit([4], 2, []), Edit([4, 3], 2, []), Edit([4, 2], 1, []), Edit([2, 4], 2, [])]
    not_edit = (e.InvalidEdit, no_objects(Edit) + unfit)
    calls = []
    for one in ((e.InvalidList, lists), (e.InvalidStream, items), (e.Unlike, [Told([bits, deeper, deeper], deeper)])):
        for other in (not_edit, (e.InvalidDepth, [Told(loud, 4)])):
            wrong = {"settings": SETTINGS, "streams": one, "edit": other}
            calls += [
                Call(tapes.spliced, good, **wrong),
                Call(tapes.least_spliced, good, **wrong),
                Call(tapes.is_least_spliced, lambda: dict(good(), value=tapes.least_spliced(**good())), **wrong),
            ]
    rows = [None, True, 3, "", (), {}, [], [[1]], [[1], [1], [1]], [[], []], [[1], [1, 2]], [[1], [True]], [[1], [2 ** 23]],
            [[1], (1,)], ([1], [1]), [[1, 1, 1, 1]] * 2, [[1], None], [[1], ["1"]], Sound(4, [[1], [1]])]
    to = lambda: {"settings": SIDE, "stream": bits, "at": 1, "rows": [[7, 7, 0], [1, 2, 3]]}
    for one in ((e.InvalidList, rows), (e.InvalidDepth, [Told([[1], [8]], 4)])):
        calls.append(Call(tapes.set_to, to, settings=SETTINGS, stream=(e.InvalidStream, bad), at=number(0, 3), rows=one))
    calls.append(Call(tapes.Tape, lambda: {"settings": SIDE, "stream": bits}, settings=SETTINGS, stream=(e.InvalidStream, bad)))
    return calls


def live_calls():
    recorder = live.Recorder(SIDE, 4, 2, "100")
    recorder.put(PAIR.ways())
    good = lambda: {"settings": SIDE, "depth": 4, "length": 2, "mark": "100"}
    far = {"settings": FAR, "depth": 4, "length": 200, "mark": "100"}
    calls = []
    for one, most in ((good, 24), (lambda: dict(far), 17)):
        wrong = {"settings": SETTINGS, "depth": (e.InvalidDepth, numbers_but(1, most)), "mark": CARRIER}
        bits = recorder.stream()
        calls += [
            Call(live.Recorder, one, length=number(1, 200), **wrong),
            Call(live.resumed, lambda one=one: dict(one(), bits=bits), length=number(1, 200), bits=BITS, **wrong),
            Call(live.Listener, lambda one=one: {name: one()[name] for name in ("settings", "depth", "mark")}, **wrong),
        ]
    return calls


def no_texts():
    """What is neither the text of a guesser nor any other one."""
    return [None, True, 0, 1, [], ["guesser 0\n"], (), {}, Guesser([], 0), "", "\n", " ", "guesser", "0\n", "x\n", "mixer\n",
            "guesser\n", "settings\n", "price none\n", "prices", "plan\n", "\nprices\n", "guesser 0", "mixer 1"]


def text_calls():
    bad = no_texts()
    two = Settings([2, 4], [Mixer(2, []), Mixer(2, [("swap", 0, 1)])], [steps(1), Guesser([3], 1)], 1)
    items = [Told([27, bad, -1], bad) for bad in numbers_but(0, None) if bad is not None]
    read = [
        (texts.read_guesser, texts.guesser_text(steps(2))),
        (texts.read_mixer, texts.mixer_text(Mixer(2, [("lift", 1, [-1, 0], 0), ("turn", 1), ("swap", 0, 1)]))),
        (texts.read_settings, texts.settings_text(two)),
        (texts.read_prices, texts.prices_text([27, None, 100])),
    ]
    wrong = {"settings": SETTINGS, "depth": depth(24), "samples": number(0, 4095)}
    far = dict(wrong, depth=(e.InvalidDepth, numbers_but(1, 17)))
    plan = lambda: {"settings": SIDE, "depth": 4, "samples": 8, "plan": pair_plan() + pair_plan()}
    none = [pair_plan(), [], pair_plan() * 3, tuple(pair_plan() * 2), [(8, 0, [("plain",), ("plain",)])], pair_plan() + [None],
            [(4, 2, [("plain",), ("plain",)])] * 2, [(4, 0, [("plain",)])] * 2, [(4, 0, [("plain",), ("guessed", 0, 0, [5])])] * 2,
            [(4, 0, [("plain",), ("guessed", 0, 0, [True])])] * 2]
    bad_plan = (e.InvalidPlan, no_objects(list) + none)
    text = texts.short_text(SIDE, 4, 8, pair_plan() * 2)
    no_text = (e.InvalidText, bad + [text[:-1], text + "\n", text + "end\n", "plan 4 8\n"])
    no_string = (e.InvalidText, [value for value in bad if not isinstance(value, str)] + no_numbers()[:3])
    calls = [
        Call(texts.guesser_text, lambda: {"guesser": steps(2)}, guesser=GUESSER),
        Call(texts.mixer_text, lambda: {"mixer": Mixer(2, [("swap", 0, 1)])}, mixer=MIXER),
        Call(texts.settings_text, lambda: {"settings": two}, settings=SETTINGS),
        Call(texts.prices_text, lambda: {"prices": [27, None, 100]}, prices=(e.InvalidList, no_objects(list))),
        Call(texts.prices_text, lambda: {"prices": [27, None, 100]}, prices=(e.InvalidItem, items)),
    ]
    for function, good in read:
        calls.append(Call(function, lambda good=good: {"text": good}, text=(e.InvalidText, bad)))
    for now, refused in ((plan, wrong), (lambda: {"settings": FAR, "depth": 4, "samples": 2, "plan": pair_still()}, far)):
        with_value = lambda now=now: {"value" if name == "plan" else name: value for name, value in now().items()}
        calls.append(Call(texts.is_let, with_value, **refused))
    for function in (texts.plan_text, texts.short_text, texts.short_lines):
        calls.append(Call(function, plan, plan=bad_plan, **wrong))
    read_it = lambda: {"settings": SIDE, "depth": 4, "samples": 8, "text": text}
    calls.append(Call(texts.read_plan, read_it, text=no_text, **wrong))
    calls.append(Call(texts.wrong_line, read_it, text=no_string, **wrong))
    calls.append(Call(texts.wrong_line, lambda: dict(read_it(), text="plan 4 8\ntimes 2\n"), text=no_string, **wrong))
    return calls


def all_calls():
    return (first_calls() + damage_calls() + finding_calls() + seeking_calls() + edit_calls() + diff_calls() + cut_calls()
            + trim_calls() + tape_calls() + live_calls() + text_calls())
