"""The interface: modules, names, and the arguments' names."""

import importlib

VALUES = ["InvalidNumber", "InvalidDepth", "InvalidList", "InvalidItem", "InvalidRow", "InvalidSound", "InvalidGuesser",
          "InvalidMixer", "InvalidCheck", "InvalidSettings", "InvalidEdit", "InvalidWeights", "InvalidSamples",
          "InvalidBoxes", "InvalidMatrix", "InvalidFolds", "InvalidWidth", "InvalidCounts", "InvalidBits",
          "InvalidPlaces", "InvalidPlan", "InvalidStream", "InvalidMark", "InvalidPieces", "InvalidFound",
          "InvalidStarts", "InvalidText", "InvalidPiece", "Unlike"]

MODULES = {
    "errors": dict({name: "value" for name in VALUES}, NotDivisible="place", NothingToUndo=""),
    "sounds": {
        "wrap": "number depth", "fold": "number", "unfold": "number", "Sound": "depth ways",
        "part": "sound low high", "joined": "one other", "number_bits": "number many", "bits_number": "bits",
    },
    "weights": {"best_weight": "row", "is_best_weight": "row value"},
    "guessers": {
        "Guesser": "weights shift", "guess": "guesser before", "steps": "order", "rests": "guesser depth row",
        "row_of": "guesser depth rests", "plain_rests": "guesser row", "same_guess": "one other",
        "normal": "guesser", "parting_row": "one other", "bounds": "guesser depth", "bound_rows": "guesser depth",
        "bits_enough": "guesser depth", "after": "one other", "leads_to": "one other",
        "same_rests": "one other depth", "parting_rests": "one other depth", "tells": "guesser row",
        "hangs": "guesser depth row place",
    },
    "healing": {
        "spoilt": "guesser depth place change many", "spoilt_by_bit": "guesser depth place bit many",
        "healed_at": "guesser depth place change", "most_spoilt": "guesser depth",
    },
    "ever": {
        "is_told": "depth weights row", "sample_at": "depth weights firsts number",
        "first_parted": "depth one firsts other seconds", "alike_from": "depth one firsts other seconds",
        "period": "depth weights firsts", "longest_period": "depth weights", "returning": "depth weights number",
        "leads_all": "depth one other", "shortest": "depth row", "is_shortest": "depth row value",
        "how_many_rules": "depth row many", "next_samples": "depth row many", "next_paper": "depth row many",
        "is_next_paper": "depth row many value", "shortest_whole": "row", "is_shortest_whole": "row value",
    },
    "mixers": {
        "Mixer": "wide steps", "mixed": "mixer samples", "unmixed": "mixer samples",
        "mixed_within": "mixer depth samples", "unmixed_within": "mixer depth samples", "matrix": "mixer",
        "halvings": "mixer", "undoing": "mixer", "joined_mixers": "one other", "tidy": "mixer",
    },
    "mixing": {
        "misses": "mixer", "same_mix": "one other", "parted_samples": "one other", "ranges": "mixer boxes",
        "enough": "mixer depth", "on_the_way": "mixer depth", "same_within": "one other depth",
        "parted_within": "one other depth", "commute": "one other",
    },
    "lifts": {"fewest_lifts": "numbers", "lifts_for": "numbers", "comes_back": "mixer"},
    "shares": {
        "price": "folds width", "bit_counts": "folds", "same_prices": "one other", "parting_width": "one other",
        "row_of_counts": "many counts", "how_many_like": "folds", "least_width": "folds",
        "price_bounds": "many total width", "possible_widths": "many total", "width_row": "many total width",
        "loss": "many total width", "loss_row": "many total width", "safest": "many total",
        "how_many_least": "many bits size", "how_many_with": "many bits width", "mean_least": "many bits",
    },
    "stretches": {
        "written": "folds width", "read_folds": "bits width many", "readings": "bits most", "both_read": "one other",
        "turned_reading": "folds width at", "least_cuts": "folds few cost bits",
        "is_cuts_paper": "folds few cost bits value", "how_many_cuts": "folds few cost bits",
        "greatest_gain": "one other bits", "gain_rows": "one other bits", "never_pays": "one other bits cost",
        "halves": "folds most", "least_half": "folds most cost",
    },
    "allsounds": {
        "how_many": "depth width many size", "size_bounds": "depth width many",
        "row_at": "guesser depth width many size number", "number_of": "guesser depth width row",
        "fair": "depth width", "mean": "depth width", "least_means": "depth", "gap": "one other depth",
    },
    "checks": {
        "Check": "width low", "rest": "check bits", "word": "check bits", "sealed": "check bits",
        "is_right": "check bits", "power": "check many", "joined_word": "check one other many",
        "turned_word": "check one places", "unseen": "check places", "order": "check", "distance": "check many",
        "least_unseen": "check many", "longest": "check few", "all_odd": "check", "how_many_shapes": "check span",
        "shape_at": "check span number", "shape_number": "check places",
    },
    "mending": {
        "can_fill": "check places", "is_fill": "check places value", "how_many_filled": "check bits",
        "filled_at": "check bits number", "mends": "check bits most", "how_many_unseen": "check many few",
        "chance": "check many top under", "also_right": "one other", "parted_bits": "one other",
        "together": "one other", "shared": "one other", "bits_with": "one other left right",
    },
    "settings": {"Settings": "lengths mixers guessers parts", "wide": "settings depth"},
    "streams": {
        "fits": "settings sound plan", "write": "settings sound plan", "sizes": "settings sound plan",
        "rows_of": "settings bits", "read": "settings bits", "mended": "settings bits", "wrong_at": "settings bits",
        "begun": "settings bits", "block_bits": "settings sound first block", "block_at": "settings depth bits place",
        "Reader": "settings",
    },
    "plans": {
        "least_block": "settings sound place length", "least_plan": "settings sound", "prices": "settings sound",
        "is_prices": "settings sound value", "spare": "settings sound plan",
    },
    "orders": {
        "how_many_plans": "settings sound size", "plan_at": "settings sound number", "plan_number": "settings sound plan",
    },
    "marks": {
        "borders": "mark", "is_free": "mark", "is_keepable": "mark", "how_many_free": "many", "rows_without": "mark many",
        "same_marks": "one other", "parting_length": "one other",
    },
    "carriers": {
        "stuffed": "mark bits", "bare": "mark bits", "growth": "mark bits", "most_growth": "mark many",
        "most_row": "mark many", "growths": "mark many", "sum_growth": "mark many", "same_growths": "one other",
        "parting_growth": "one other", "carried": "mark rows", "pieces": "mark bits", "uncarried": "mark bits",
    },
    "damage": {
        "hurt": "bits hurts", "most_lost": "lengths many", "worst_marks": "lengths many", "lost_paper": "lengths many",
        "is_lost_paper": "lengths many value",
    },
    "finding": {
        "found": "settings depth mark bits", "kept": "blocks", "most_in_order": "blocks", "how_many_kept": "blocks",
        "in_all": "blocks", "in_some": "blocks", "kept_paper": "blocks", "is_kept_paper": "blocks value",
        "most_kept": "blocks", "most_in_any": "blocks", "most_paper": "blocks", "is_most_paper": "blocks value",
        "patched": "blocks samples chosen many",
    },
    "seeking": {
        "least_step": "starts total many", "table": "starts total many", "how_many_tables": "starts total many",
        "table_at": "starts total many number", "table_paper": "starts total many",
        "is_table_paper": "starts total many value",
    },
    "edits": {
        "Edit": "lengths ways pieces", "told": "edit sounds", "identity": "length ways", "then": "first second",
        "parted": "one other", "recovered": "edit source", "is_recovery": "edit source value",
    },
    "diffs": {
        "fewest": "olds new", "is_fewest": "olds new value", "least_edit": "olds new one each",
        "is_least_edit": "olds new one each value",
    },
    "cuts": {
        "kept_blocks": "edit cuts", "anew": "edit cuts", "best_cuts": "length edits many",
        "is_best_cuts": "length edits many value",
    },
    "trims": {
        "ways_of": "sound which", "raised": "sound many", "lowered": "sound many", "stills": "sound loud many",
        "trimmed": "sound loud many left",
    },
    "tapes": {
        "spliced": "settings streams edit", "least_spliced": "settings streams edit",
        "is_least_spliced": "settings streams edit value", "set_to": "settings stream at rows", "Tape": "settings stream",
    },
    "live": {
        "Recorder": "settings depth length mark", "resumed": "settings depth length mark bits",
        "Listener": "settings depth mark",
    },
    "texts": {
        "guesser_text": "guesser", "mixer_text": "mixer", "settings_text": "settings", "prices_text": "prices",
        "read_guesser": "text", "read_mixer": "text", "read_settings": "text", "read_prices": "text",
        "is_let": "settings depth samples value", "plan_text": "settings depth samples plan",
        "read_plan": "settings depth samples text", "short_text": "settings depth samples plan",
        "short_lines": "settings depth samples plan", "wrong_line": "settings depth samples text",
    },
}

CLASSES = {
    ("sounds", "Sound"): {"depth": "", "ways": "", "way": "at", "many": "", "__eq__": "other"},
    ("guessers", "Guesser"): {"weights": "", "shift": "", "order": "", "__eq__": "other"},
    ("mixers", "Mixer"): {"wide": "", "steps": "", "__eq__": "other"},
    ("checks", "Check"): {"bits": "", "__eq__": "other"},
    ("settings", "Settings"): {
        "lengths": "", "mixers": "", "guessers": "", "parts": "", "ways": "", "__eq__": "other",
    },
    ("streams", "Reader"): {"feed": "bits", "place": "", "many": "", "wrong": "", "done": ""},
    ("edits", "Edit"): {
        "lengths": "", "ways": "", "pieces": "", "length": "", "came_from": "place", "__eq__": "other",
    },
    ("tapes", "Tape"): {
        "do": "edit", "bring": "stream at", "put": "at rows", "bits": "", "sound": "", "log": "", "back": "",
        "sources": "", "origin": "", "gone": "", "held": "", "straight": "", "copy": "", "__eq__": "other",
    },
    ("live", "Recorder"): {
        "put": "samples", "flush": "", "many": "", "closed": "", "plan": "", "stream": "", "finished": "",
        "sure_bits": "", "crash": "at", "kept_from": "number", "log": "", "back": "", "copy": "", "__eq__": "other",
    },
    ("live", "Listener"): {"hear": "bits", "told": "", "many": "", "waiting": "", "copy": ""},
}


def named(module, name):
    """What a name of the interface stands for."""
    return getattr(importlib.import_module("wholesound." + module), name)
