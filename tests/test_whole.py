"""Over the whole program: each function refuses odd things with the error that is due, the first wrong one first ([1], [2])."""

import importlib
import inspect
import unittest

from helpers import chance, changed_values, check_ways, has_list, odd_values, outcome
from test_interface import FUNCTIONS, METHODS, told
from whoiswho.best import Likes
from whoiswho.entries import write_entry
from whoiswho.measures import Pairs

RULE = ((("edits", 0, 1, (0, 5, 2, -3)),), 2, (((0, "unlike"),),))
TABLE = ((("a", "a"), ("a",)), (("b", "a"), ("a", "b")))
NAMES = ((0, 0), (0, 1), (0, 2), (1, 0))
LINKS = ((9, (0, 0), (0, 1)), (5, (0, 1), (0, 2)))
BARS = (((0, 0), (0, 2)),)
WEB = (NAMES, LINKS, BARS)
HANDS = (NAMES, LINKS, BARS)
PARTS = (((0, 0), (0, 1)), ((0, 2),), ((1, 0),))
PEOPLE = (((0, 0), (0, 1)), ((0, 2), (1, 0)))
LIKES = Likes(3, [(3, 0, 1), (2, 1, 2)], [(1, 0, 2)])
HARD = Likes(3, [(3, 0, 1), (2, 1, 2)], [(None, 0, 2)])
NAMED = ((4, ((0, 0), (0, 1))), (7, ((0, 2),)))
SOURCES = (((0, 0), (1, 0), "a"), ((0, 1), (2, 0), "b"))
SUMMARY = (("a", (((0, 0), (1, 0)),)), ("b", (((0, 1), (2, 0)),)))
OTHERS = (("a", (((1, 0), (1, 1)),)),)
BOOK = ((((0, 0), ("put", ("ann",))), ((1, 0), ("rule", RULE)), ((2, 1), ("same", (0, 0), (1, 0)))), (((1, 0), ("put", ("ann",))),))
STATE = ((1, 0), (((0, 0), (0, 0), ("put", ("ann",))),))
LOT = (((0, 0), (0, 0), ("put", ("ann",))), ((0, 1), (1, 0), ("rule", RULE)), ((1, 0), (1, 1), ("put", ("ann",))),
       ((1, 1), (2, 1), ("same", (0, 0), (1, 0))))
LOG = write_entry(((0, 0), ((0, 0), ("put", ("a",)))))
DEED = ((0, 0), ((0, 0), ("put", ("a",))))
EVENTS = (("do", 0, ("put", ("ann",))), ("write", 0), ("read", 1, 0))
WEB_ERRORS = "InvalidPeople InvalidLinks InvalidBars"
# For each function some right arguments, and for each of these the errors that are its own, - for none.
CASES = {
    "records": [
        ("day_number", (2024, 2, 29), "InvalidDay:0 InvalidDay:1 InvalidDay:2"), ("day_of", (5,), "InvalidDay:-1"), ("day_text", (5,), "InvalidDay:-1"),
        ("read_day", ("2024-02-29",), "InvalidDay"), ("need_schema", (("text", "list"),), "InvalidSchema"),
        ("need_fields", (("text", "list"), ("a", ("b", "c"))), "InvalidSchema InvalidField"), ("need_name", ((0, 1),), "InvalidName:-1"),
        ("need_record", (("text",), ((0, 0), ("a",))), "InvalidSchema InvalidRecord|InvalidName|InvalidField"),
        ("need_records", (("text",), (((0, 0), ("a",)), ((0, 1), (None,)))), "InvalidSchema InvalidRecord")],
    "forms": [
        ("row_places", (TABLE, ("b", "a", "a")), "InvalidTable InvalidRow"), ("row_form", (TABLE, ("b", "a", "a")), "InvalidTable InvalidRow"),
        ("steps_end", (TABLE, ("b", "a", "a"), ((0, 1),)), "InvalidTable InvalidRow InvalidSteps"),
        ("all_forms", (TABLE, ("b", "a", "a")), "InvalidTable InvalidRow"), ("one_pass", (TABLE, ("b", "a", "a")), "InvalidTable InvalidRow")],
    "overlaps": [
        ("overlap_rows", (TABLE,), "InvalidTable"), ("form_paper", (TABLE,), "InvalidTable"), ("form_holds", (TABLE, None), "InvalidTable -"),
        ("pass_gap", (TABLE,), "InvalidTable"), ("form_gap", (TABLE, TABLE[:1]), "InvalidTable InvalidTable")],
    "texts": [
        ("thing_text", ((3, "a"),), "InvalidValue:-1"), ("read_thing", ("(3 'a')",), "InvalidText"), ("text_words", ("a b",), "InvalidText:-1"),
        ("text_form", (TABLE, "a b"), "InvalidTable InvalidText:-1"), ("read_fields", (("text",), TABLE, ("a",)), "InvalidSchema InvalidTable InvalidField"),
        ("fields_texts", (("text",), ("a",)), "InvalidSchema InvalidField"),
        ("fields_form", (("text",), TABLE, ("a",)), "InvalidSchema InvalidTable InvalidField")],
    "edits": [("edited_text", ("ab", (("out", 0),)), "InvalidValue:0 InvalidScript")] + [
        (name, ("ab", "b"), "InvalidValue:0 InvalidValue:1") for name in ("edit_table", "edit_distance", "edit_script")],
    "furthest": [(name, ("ab", "b", 2), "InvalidValue:0 InvalidValue:1 InvalidSize:most") for name in ("furthest_rows", "edits_within", "beyond_paper")] + [
        ("beyond_holds", ("ab", "b", 0, None), "InvalidValue:0 InvalidValue:1 InvalidSize:most -"),
        ("edit_paper", ("ab", "b"), "InvalidValue:0 InvalidValue:1"), ("edit_holds", ("ab", "b", None), "InvalidValue:0 InvalidValue:1 -")],
    "rises": [(name, ("ab", "b"), "InvalidValue:0 InvalidValue:1") for name in ("rise_columns", "begin_distances", "found_distances")],
    "grams": [
        ("text_grams", ("ab",), "InvalidValue:0"), ("gram_distance", ("ab", "b"), "InvalidValue:0 InvalidValue:1"),
        ("grams_paper", ((("", "a"), ("a", "")),), "InvalidGrams"), ("grams_hold", ((("", "a"), ("a", "")), None), "InvalidGrams -")],
    "twins": [
        ("exchanged_text", ("abcabc", (0, 1, 3, 4)), "InvalidValue:0 InvalidIndex:-1"), ("exchange_row", ("ab", "b"), "InvalidValue:0 InvalidValue:1"),
        ("twins_hold", ("ab", "b", None), "InvalidValue:0 InvalidValue:1 -"), ("twin_text", ("ab",), "InvalidValue:0|InvalidSize:text"),
        ("twin_count", ("ab",), "InvalidValue:0|InvalidSize:text"), ("all_twins", ("ab",), "InvalidValue:0|InvalidSize:text")],
    "comparing": [
        ("field_distance", ("edits", "a", "b"), "InvalidComparer InvalidValue:0 InvalidValue:1"), ("shorter_texts", ("ab", 1), "InvalidValue:0 InvalidSize:most"),
        ("struck_distance", ("ab", "b"), "InvalidValue:0 InvalidValue:1")],
    "rules": [("need_rule", (RULE,), "InvalidRule"), ("possible_verdicts", (RULE[0][0],), "InvalidRule:0")] + [
        (name, (RULE, ("like",)), "InvalidRule InvalidVerdicts") for name in ("row_sum", "row_word", "record_pair")] + [
        (name, (RULE, ("a",), ("b",)), "InvalidRule InvalidRecord:0 InvalidRecord:1") for name in ("field_distances", "verdict_row", "pair_likeness")],
    "grounds": [(name, (RULE, ("like",)), "InvalidRule InvalidVerdicts") for name in ("enough_lots", "needful_lots")],
    "windows": [
        ("change_window", (RULE, (RULE[0], 3, ())), "InvalidRule InvalidRule"), ("rules_paper", (RULE, (RULE[0], 3, ())), "InvalidRule InvalidRule"),
        ("rules_hold", (RULE, RULE, ("alike",)), "InvalidRule InvalidRule -")],
    "taught": [
        ("taught_paper", (((("like",), "same"), (("near",), "not")),), "InvalidAnswers"),
        ("taught_holds", (((("like",), "same"), (("near",), "not")), None), "InvalidAnswers -")],
    "filters": [
        ("first_marks", ((1, 2, 3), (3, 1), 0), "InvalidLot:0 InvalidLot:1 InvalidSize:near"), ("keeping_paper", ((((1, 2), (1,)),), 0), "InvalidLot InvalidSize:near"),
        ("piece_places", (8, 1), "InvalidSize:length InvalidSize:near"), ("text_looks", (8, 1, 9), "InvalidSize:length InvalidSize:near InvalidSize:other"),
        ("found_looks", ("abcd", "abce", 1), "InvalidText:0 InvalidText:1 InvalidSize:near"),
        ("spoilt_text", ("abcd", 1, (0, 0), 4), "InvalidText:-1 InvalidSize:near - InvalidSize:other")] + [
        (name, ("edits", 1, "abc"), "InvalidComparer InvalidSize:near InvalidValue:0") for name in ("put_keys", "asked_keys")],
    "index": [
        ("fields_paper", (RULE, (0,)), "InvalidRule InvalidField"), ("fields_hold", (RULE, (0,), ("caught", ("below",))), "InvalidRule InvalidField -"),
        ("keyed_fields", (RULE,), "InvalidRule"), ("fewest_fields", (RULE,), "InvalidRule"), ("Index", (RULE, (0,)), "InvalidRule InvalidField")],
    "links": [(name, (RULE, (((0, 0), ("a",)), ((0, 1), ("b",)))), "InvalidRule InvalidRecord") for name in ("plain_links", "rule_bars")] + [
        ("Links", (RULE, (0,)), "InvalidRule InvalidField")],
    "people": [(name, WEB[:2], "InvalidPeople InvalidLinks") for name in ("link_order", "link_pieces")] + [
        (name, WEB, WEB_ERRORS) for name in ("link_fates", "rule_people", "best_partition")] + [
        ("first_weight", WEB + ((0, 0), (0, 1)), WEB_ERRORS + " InvalidIndex:0 InvalidIndex:1"), ("people_above", WEB + (6,), WEB_ERRORS + " InvalidSize:least")],
    "papers": [
        ("people_paper", WEB, WEB_ERRORS), ("people_hold", WEB + (None,), WEB_ERRORS + " -"),
        ("pair_paper", WEB + ((0, 0), (0, 1)), WEB_ERRORS + " InvalidIndex:0 InvalidIndex:1"),
        ("pair_holds", WEB + ((0, 0), (0, 1), None), WEB_ERRORS + " InvalidIndex:0 InvalidIndex:1 -")],
    "keeping": [("Keeping", WEB, WEB_ERRORS), ("turning_links", (4,), "InvalidSize:many")],
    "deeds": [("need_lot", (LOT,), "InvalidLot")] + [(name, (LOT,), "InvalidLot") for name in (
        "lot_records", "lot_rule", "beside_marks", "idle_marks", "hand_words", "lot_web", "told_people", "refused_sames")] + [
        ("put_words", WEB + (LINKS, BARS), WEB_ERRORS + " InvalidLinks InvalidBars"), ("struck_lot", (LOT, ((1, 1),)), "InvalidLot -")],
    "rings": [
        ("hands_paper", HANDS, WEB_ERRORS), ("hands_hold", HANDS + (None,), WEB_ERRORS + " -"), ("is_settled", HANDS + (PARTS,), WEB_ERRORS + " InvalidPeople:-1"),
        ("words_back", HANDS + (PARTS,), WEB_ERRORS + " InvalidPeople:-1"), ("settled_parts", HANDS, WEB_ERRORS),
        ("steps_between", HANDS + (PARTS, PARTS), WEB_ERRORS + " InvalidPeople:-1 InvalidPeople:-1"),
        ("same_paper", HANDS + ((0, 0), (0, 1)), WEB_ERRORS + " - -"), ("same_holds", HANDS + ((0, 0), (0, 1), None), WEB_ERRORS + " - - -")],
    "chains": [("unlike_kind", (NAMES, BARS), "InvalidPeople InvalidBars"), ("kind_holds", (NAMES, BARS, None), "InvalidPeople InvalidBars -")] + [
        (name, HANDS, WEB_ERRORS) for name in ("fewest_back", "fewest_chains")] + [
        ("chains_hold", HANDS + (None,), WEB_ERRORS + " -"),
        ("gap_web", (NAMES, (((0, 0), (0, 1)), ((0, 0), (0, 2)), ((0, 1), (0, 2)))), "InvalidPeople InvalidBars")],
    "best": [
        ("Likes", (3, ((3, 0, 1),), ((None, 0, 2),)), "InvalidSize:things InvalidLinks InvalidBars"),
        ("likes_loss", (LIKES, ((0, 1), (2,))), "InvalidLinks:-1 InvalidPeople:-1"), ("tight_people", (LIKES, ((0, 1), (2,))), "InvalidLinks:-1 InvalidPeople:-1"),
        ("best_paper", (LIKES, 8), "InvalidLinks:-1 InvalidSize:most"), ("best_holds", (LIKES, None), "InvalidLinks:-1 -")],
    "cuts": [("star_paper", (LIKES,), "InvalidLinks:-1")],
    "sure": [
        ("sure_steps", (LIKES,), "InvalidLinks:-1"), ("sure_holds", (LIKES, None), "InvalidLinks:-1 -"), ("left_likes", (LIKES, ()), "InvalidLinks:-1 Refused:steps")],
    "blocks": [
        ("like_blocks", (LIKES,), "InvalidLinks:-1"), ("best_count", (LIKES,), "InvalidLinks:-1"),
        ("word_paper", (LIKES, 0, 1, 8), "InvalidLinks:-1 InvalidIndex:0 InvalidIndex:1 InvalidSize:most"),
        ("word_holds", (LIKES, 0, 1, None), "InvalidLinks:-1 InvalidIndex:0 InvalidIndex:1 -"),
        ("turning_weight", (LIKES, 0, 1), "InvalidLinks:-1 InvalidIndex:0 InvalidIndex:1")],
    "always": [("plain_groups", (LIKES,), "InvalidLinks:-1"), ("always_paper", (HARD,), "InvalidLinks:-1"), ("always_holds", (HARD, None), "InvalidLinks:-1 -")],
    "naming": [
        ("named_people", (NAMED, PEOPLE, 8), "InvalidNames InvalidPeople:-1 InvalidSize:fresh"), ("changed_records", (NAMED, NAMED[:1]), "InvalidNames InvalidNames"),
        ("names_paper", (NAMED, PEOPLE, 8), "InvalidNames InvalidPeople:-1 InvalidSize:fresh"),
        ("names_hold", (NAMED, PEOPLE, 8, None), "InvalidNames InvalidPeople:-1 InvalidSize:fresh -"), ("sure_names", (NAMED, PEOPLE), "InvalidNames InvalidPeople:-1"),
        ("named_days", ((PEOPLE, PARTS),), "InvalidPeople:-1"), ("days_of", ((PEOPLE, PARTS), 0), "InvalidPeople:-1 InvalidIndex:-1")],
    "values": [(name, (("houses", (1, 0)), SOURCES), "InvalidRule:-1 InvalidSources") for name in ("told_value", "fewest_struck")] + [
        ("sum_up", (SOURCES,), "InvalidSources"), ("summary_value", (("most",), SUMMARY), "InvalidRule:-1 InvalidSummary:-1"),
        ("joined_summaries", (SUMMARY, OTHERS), "InvalidSummary:-1 InvalidSummary:-1"), ("without_source", (SUMMARY, (0, 1)), "InvalidSummary:-1 -")],
    "choices": [
        ("choice_paper", (2, (((0,), 0), ((1,), 1), ((0, 1), 1))), "InvalidSize:many InvalidChoices"),
        ("choice_holds", (2, (((0,), 0), ((1,), 1), ((0, 1), 1)), None), "InvalidSize:many InvalidChoices -")],
    "questions": [
        ("turning_answers", WEB + (LINKS, BARS), WEB_ERRORS + " InvalidLinks InvalidBars"),
        ("answered_people", WEB + (LINKS, BARS, "same", (0, 0), (0, 1)), WEB_ERRORS + " InvalidLinks InvalidBars InvalidSize:word - -"),
        ("leading_paper", WEB + (PARTS,), WEB_ERRORS + " InvalidPeople:-1"), ("leading_many", WEB + (PARTS,), WEB_ERRORS + " InvalidPeople:-1")],
    "asking": [(name, (PEOPLE, BARS), "InvalidPeople:-1 InvalidBars") for name in ("asked_pairs", "asked_bounds")] + [
        ("order_asking", (PEOPLE, BARS, 1), "InvalidPeople:-1 InvalidBars InvalidSize:many")],
    "surely": [
        ("firm_paper", (PARTS, LINKS, 1), "InvalidPeople:-1 InvalidLinks InvalidSize:wrong"), ("fewest_answers", (PARTS, 1), "InvalidPeople:-1 InvalidSize:wrong"),
        ("firm_holds", (PARTS, LINKS, 1, None), "InvalidPeople:-1 InvalidLinks InvalidSize:wrong -"),
        ("further_answers", (PARTS, LINKS, 1), "InvalidPeople:-1 InvalidLinks InvalidSize:wrong")],
    "books": [("is_mark", ((0, 0),), "-")] + [(name, (BOOK,), "InvalidBook") for name in (
        "need_book", "book_vector", "closed_fault", "standing_marks", "standing_words", "compact_book")] + [
        ("lower_book", (BOOK, (2, 1)), "InvalidBook InvalidVector:-1"), ("deed_rank", (BOOK, (0, 1)), "InvalidBook InvalidIndex:-1"),
        ("told_word", (BOOK, "rule"), "InvalidBook InvalidIndex:-1"), ("join_compact", (STATE, ((0, 0), ())), "InvalidState:0 InvalidState:1"),
        ("compact_do", (STATE, 1, ("back", (0, 0))), "InvalidState:-1 NoHouse InvalidDeed:-1"), ("gap_books", (), "")],
    "meeting": [
        ("join_books", (BOOK, ((), ())), "InvalidBook InvalidBook"), ("lacking_deeds", (BOOK, (1, 0)), "InvalidBook InvalidVector:-1"),
        ("taken_in", (((), ()), (), (DEED,)), "InvalidBook InvalidDeed InvalidDeed"), ("surely_knows", (BOOK, 0, (0, 0)), "InvalidBook NoHouse InvalidIndex:-1"),
        ("letters_fault", (2, ((0, 1),)), "InvalidSize:houses InvalidLetter"), ("fewest_letters", (3,), "InvalidSize:houses")],
    "entries": [
        ("sum_pair", ((1, 2),), "InvalidEntry:signs"), ("write_entry", ((1, "a"),), "InvalidValue:-1|InvalidSize:entry"), ("read_entry", (LOG,), "InvalidEntry"),
        ("read_log", (LOG,), "InvalidEntry:signs")],
    "falls": [
        ("read_house", (LOG, 2), "InvalidEntry:signs InvalidSize:houses"), ("hear_steps", (LOG, 2, (DEED,)), "InvalidEntry:signs InvalidSize:houses InvalidDeed"),
        ("do_steps", (LOG, 2, 0, ("put", ("a",))), "InvalidEntry:signs InvalidSize:houses NoHouse InvalidDeed:-1"), ("early_run", (), "")],
    "moments": [
        ("World", (2,), "InvalidSize:houses"), ("events_world", (2, EVENTS), "InvalidSize:houses InvalidEvents"), ("told_from", (BOOK, (1, 1)), "InvalidBook InvalidVector:-1"),
        ("vector_at", (2, EVENTS, 2, 1), "InvalidSize:houses InvalidEvents InvalidIndex:-1 NoHouse"),
        ("told_at", (2, EVENTS, 2, 1), "InvalidSize:houses InvalidEvents InvalidIndex:-1 NoHouse"),
        ("possible_fault", (BOOK, 0, (1, 0)), "InvalidBook|Refused:-1 NoHouse InvalidVector:-1"),
        ("possible_events", (BOOK, 0, (1, 0)), "InvalidBook|Refused:-1 NoHouse InvalidVector:-1")] + [
        (name, (BOOK, 0), "InvalidBook|Refused:-1 NoHouse") for name in ("possible_vectors", "possible_people")],
    "why": [
        ("told_less", (BOOK, ((0, 2),)), "InvalidBook InvalidIndex"), ("told_if", (2, EVENTS, 2, ("write", 0)), "InvalidSize:houses InvalidEvents InvalidIndex:-1 -")] + [
        (name, (BOOK, (0, 0), (3, 1), (0, 0), (1, 0)), "InvalidBook|Refused:-1 InvalidVector:0 InvalidVector:1 InvalidIndex:0 InvalidIndex:1") for name in (
            "turn_marks", "near_marks", "turn_grounds", "turn_needs")],
    "taken": [
        ("taken_paper", (BOOK, (0, 0), (1, 0)), "InvalidBook InvalidIndex:0 InvalidIndex:1"),
        ("taken_holds", (BOOK, (0, 0), (1, 0), None), "InvalidBook InvalidIndex:0 InvalidIndex:1 -")],
    "measures": [("need_parts", (PARTS,), "InvalidPeople")] + [
        (name, (PARTS, PEOPLE), "InvalidPeople InvalidPeople") for name in ("cell_counts", "pair_counts", "unlike_pairs", "Pairs")],
    "splits": [(name, (PARTS, (("join",) + PARTS[:2],)), "InvalidPeople InvalidSteps") for name in ("steps_after", "steps_cost")] + [
        (name, (PARTS, PEOPLE), "InvalidPeople InvalidPeople") for name in ("above_parts", "below_parts", "steps_height", "fewest_steps", "split_first")] + [
        ("steps_hold", (PARTS, PEOPLE, None), "InvalidPeople InvalidPeople -")] + [
        (name, (PARTS, PARTS, PEOPLE), "InvalidPeople InvalidPeople InvalidPeople") for name in ("is_between", "is_beside")] + [
        ("judges_paper", ((PARTS, PEOPLE),), "InvalidIndex"), ("judges_hold", ((PARTS, PEOPLE), None), "InvalidIndex -")],
    "house": [
        ("WhoHouse", (2, ("edits",)), "InvalidSize:houses InvalidSize:comparers|InvalidComparer"),
        ("house_behind", (2, ("edits",), EVENTS), "InvalidSize:houses InvalidSize:comparers|InvalidComparer InvalidEvents")],
    "live": [("Live", (2, ("edits",)), "InvalidSize:houses InvalidSize:comparers|InvalidComparer")],
    "looks": [("look_holds", (("edit", ("a", "b"), None),), "-"), ("make_look", ("edit", ("a", "b")), "Refused:word -"), ("wrong_looks", ((3,),), "Refused:looks")],
    "desk": [("Desk", (), "")],
}
# Methods: of an object that is made anew each time, behind some calls.
MADE = {
    "keeping.Keeping": (WEB, (), [
        ("put_name", ((7, 7),), "InvalidPeople:-1"), ("take_name", ((1, 0),), "InvalidPeople:-1"), ("put_link", (3, (0, 2), (1, 0)), "- - -"),
        ("take_link", ((0, 0), (0, 1)), "- -"), ("put_bar", ((0, 2), (1, 0)), "- -"), ("take_bar", ((0, 0), (0, 2)), "- -"),
        ("told_names", (), ""), ("told_links", (), ""), ("told_bars", (), ""), ("told_fates", (), ""), ("told_people", (), "")]),
    "measures.Pairs": ((PARTS, PEOPLE), (), [("move_name", ((0, 0), -1), "NoRecord InvalidIndex:-1")]),
    "index.Index": ((RULE, (0,)), (("put_record", (0, 0), ("ann",)),), [
        ("put_record", ((0, 1), ("ann",)), "InvalidName:-1 InvalidRecord:0|InvalidValue:0"), ("take_record", ((0, 0),), "InvalidName:-1"),
        ("likely_names", (("ann",),), "InvalidRecord:0|InvalidValue:0")]),
    "links.Links": ((RULE, (0,)), (("put_record", (0, 0), ("ann",)),), [
        ("put_record", ((0, 1), ("ann",)), "InvalidName:-1 InvalidRecord:0|InvalidValue:0"), ("take_record", ((0, 0),), "InvalidName:-1"),
        ("change_record", ((0, 0), ("an",)), "InvalidName:-1 InvalidRecord:0|InvalidValue:0"), ("all_links", (), ""), ("all_records", (), "")]),
    "moments.World": ((2,), (), [("do_event", (("write", 0),), "InvalidEvents:-1|NoHouse|InvalidDeed|InvalidIndex")]),
    "house.WhoHouse": ((2, ("edits",)), tuple(("do_event", event) for event in EVENTS), [
        ("do_event", (("fall", 1, (0, 0)),), "InvalidEvents:-1|NoHouse|InvalidDeed|InvalidIndex|InvalidVector:-1|Refused")] + [
        (name, (0,), "NoHouse") for name in ("web_of", "vector_of", "people_of", "paper_of", "from_nothing")]),
    "live.Live": ((2, ("edits",)), tuple(("do_event", event) for event in EVENTS), [
        ("do_event", (("fall", 1, (0, 0)),), "InvalidEvents:-1|NoHouse|InvalidDeed|InvalidIndex|InvalidVector:-1|Refused"), ("undo_event", (), ""),
        ("redo_event", (), ""), ("all_people", (), ""), ("people_then", (2,), "InvalidIndex:-1"), ("people_if", (1, ("write", 0)), "InvalidIndex:-1 -")]),
    "desk.Desk": ((), (("say", "open 2 'edits'"),), [("say", ("put 0 'a'",), "InvalidCommand|NoHouse|InvalidDeed")]),
}
# Of these a vector may be wrong beside the other one, which then tells it.
BESIDE = ("turn_marks", "near_marks", "turn_grounds", "turn_needs")
# Where lists may not stand for tuples: papers, books, rules, people, and what is told in tuples alone.
STRICT = ("InvalidBook", "InvalidRule", "InvalidPeople:-1", "InvalidLot", "InvalidSummary", "InvalidState", "InvalidNames", "InvalidVector", "InvalidIndex",
          "InvalidDeed", "InvalidEvents", "InvalidLetter", "Refused", "-")
GARBAGE = (None, 3, "\n", [], Pairs((), ()))


def is_own(told, spec):
    """Whether an outcome is one of an argument's own errors."""
    if told[0] != "raises":
        return False
    for part in spec.split("|"):
        name, _, kept = part.partition(":")
        if told[1] == name and (not kept or str(told[2][1][0][1][1][1]) == kept):
            return True
    return False


def is_great(value):
    """Whether a value has a number by which some functions would go on for long."""
    if isinstance(value, (list, tuple)):
        return any(map(is_great, value))
    return isinstance(value, int) and abs(value) > 1000


class WholeTest(unittest.TestCase):
    def values(self, right):
        choice = chance(1)
        values = odd_values() + changed_values(right, choice, 25)
        return [value for value in values if not is_great(value)]

    def check(self, call, name, args, specs):
        specs = specs.split()
        self.assertEqual(len(specs), len(args), name)
        self.assertEqual(outcome(call, *args)[0], "returns", (name, outcome(call, *args)))
        for at, spec in enumerate(specs):
            for value in self.values(args[at]):
                behind = tuple(args[at + 1:])
                told = outcome(call, *(tuple(args[:at]) + (value,) + behind))
                if isinstance(value, Pairs) and spec != "-":
                    self.assertTrue(is_own(told, spec), (name, at, told))
                if spec == "-" or not is_own(told, spec) or name in BESIDE and at == 1 and told[1] == "InvalidVector":
                    continue
                for garbage in GARBAGE if behind else ():
                    self.assertEqual(outcome(call, *(tuple(args[:at]) + (value,) + (garbage,) * len(behind))), told, (name, at, value, garbage))

    def test_functions(self):
        for module, cases in CASES.items():
            for name, args, specs in cases:
                function = getattr(importlib.import_module("whoiswho." + module), name)
                self.check(function, name, args, specs)
                if not inspect.isclass(function) and args:
                    places = [at for at, spec in enumerate(specs.split()) if not self.is_strict(spec, args[at])]
                    check_ways(self, function, args, lists=() if name == "write_entry" else places)
                    self.assertFalse(has_list(function(*args)))

    def is_strict(self, spec, arg):
        if spec == "InvalidPeople":
            return arg != NAMES
        return isinstance(arg, Likes) or any(part.startswith(word) for part in spec.split("|") for word in STRICT)

    def test_methods(self):
        for name, (args, calls, cases) in MADE.items():
            module, word = name.split(".")
            kind = getattr(importlib.import_module("whoiswho." + module), word)
            for method, right, specs in cases:
                def call(*passed, **named):
                    made = kind(*args)
                    for before in calls:
                        getattr(made, before[0])(*before[1:])
                    return getattr(made, method)(*passed, **named)
                self.check(call, method, right, specs)
                names = list(inspect.signature(getattr(kind, method)).parameters)[1:]
                self.assertEqual(outcome(call, *right), outcome(call, **dict(zip(names, right))))

    def test_all_of_the_interface_is_here(self):
        for module, text in FUNCTIONS.items():
            names = {name for name, _ in told(text)}
            if module != "errors":
                self.assertEqual(names, {name for name, _, _ in CASES[module]}, module)
        self.assertEqual(set(CASES) | {"errors"}, set(FUNCTIONS))
        for name, text in METHODS.items():
            self.assertEqual({method for method, _ in told(text)}, {method for method, _, _ in MADE[name][2]})
        self.assertEqual(set(MADE), set(METHODS))


if __name__ == "__main__":
    unittest.main()
