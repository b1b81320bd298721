"""The interface of DOC.md, as far as it is there: names, where they are defined, and their parameters."""

import importlib
import inspect
import unittest

import helpers  # noqa: F401

ERRORS = """Text Schema Field Name Record Day Table Row Steps Value Script Grams Rule Verdicts Answers Choices Sources Links
    Bars People Names Deed Book Vector Letter Events Index Summary Lot State""".split()
FUNCTIONS = {
    "always": "plain_groups(likes) always_paper(likes) always_holds(likes,value)",
    "asking": "asked_pairs(parts,pairs) asked_bounds(parts,pairs) order_asking(parts,pairs,many)",
    "best": "Likes(things,links,bars) likes_loss(likes,people) tight_people(likes,people) best_paper(likes,most)"
            " best_holds(likes,value)",
    "blocks": "like_blocks(likes) best_count(likes) word_paper(likes,one,other,most) word_holds(likes,one,other,value)"
              " turning_weight(likes,one,other)",
    "books": "is_mark(value) need_book(value) book_vector(book) closed_fault(book) lower_book(book,vector) deed_rank(book,mark)"
             " standing_marks(book) standing_words(book) told_word(book,subject) compact_book(book) join_compact(one,other)"
             " compact_do(state,house,word) gap_books()",
    "choices": "choice_paper(many,choices) choice_holds(many,choices,value)",
    "comparing": "field_distance(comparer,one,other) shorter_texts(text,most) struck_distance(one,other)",
    "cuts": "star_paper(likes)",
    "edits": "edited_text(text,script) edit_table(one,other) edit_distance(one,other) edit_script(one,other)",
    "entries": "sum_pair(signs) write_entry(value) read_entry(signs) read_log(log)",
    "errors": "InvalidEntry(word) InvalidSize(word) NoRecord(name) NoHouse(house) Refused(at) "
              + " ".join("Invalid%s(at)" % word for word in ERRORS),
    "falls": "read_house(log,houses) do_steps(log,houses,house,word) hear_steps(log,houses,deeds) early_run()",
    "filters": "first_marks(order,lot,near) keeping_paper(rows,near) piece_places(length,near) text_looks(length,near,other)"
               " found_looks(one,other,near) spoilt_text(text,near,look,other) put_keys(comparer,near,value)"
               " asked_keys(comparer,near,value)",
    "forms": "row_places(table,row) steps_end(table,row,steps) row_form(table,row) all_forms(table,row) one_pass(table,row)",
    "furthest": "furthest_rows(one,other,most) edits_within(one,other,most) beyond_paper(one,other,most)"
                " beyond_holds(one,other,most,value) edit_paper(one,other) edit_holds(one,other,value)",
    "grams": "text_grams(text) gram_distance(one,other) grams_paper(grams) grams_hold(grams,value)",
    "grounds": "enough_lots(rule,row) needful_lots(rule,row)",
    "keeping": "Keeping(names,links,bars) turning_links(many)",
    "measures": "need_parts(value) cell_counts(one,other) pair_counts(one,other) unlike_pairs(one,other) Pairs(one,other)",
    "meeting": "join_books(one,other) lacking_deeds(book,vector) taken_in(book,waiting,deeds) surely_knows(book,house,mark)"
               " letters_fault(houses,letters) fewest_letters(houses)",
    "naming": "named_people(named,people,fresh) changed_records(named,later) names_paper(named,people,fresh)"
              " names_hold(named,people,fresh,value) sure_names(named,people) named_days(days) days_of(days,number)",
    "overlaps": "overlap_rows(table) form_paper(table) form_holds(table,value) pass_gap(table) form_gap(one,other)",
    "papers": "people_paper(names,links,bars) people_hold(names,links,bars,value) pair_paper(names,links,bars,one,other)"
              " pair_holds(names,links,bars,one,other,value)",
    "people": "link_order(names,links) link_fates(names,links,bars) rule_people(names,links,bars) link_pieces(names,links)"
              " first_weight(names,links,bars,one,other) people_above(names,links,bars,least) best_partition(names,links,bars)",
    "records": "day_number(year,month,day) day_of(number) day_text(number) read_day(text) need_schema(value)"
               " need_fields(schema,value) need_name(value) need_record(schema,value) need_records(schema,value)",
    "rises": "rise_columns(one,other) begin_distances(one,other) found_distances(one,other)",
    "rules": "need_rule(value) possible_verdicts(field) row_sum(rule,row) row_word(rule,row) field_distances(rule,one,other)"
             " verdict_row(rule,one,other) pair_likeness(rule,one,other) record_pair(rule,row)",
    "splits": "steps_after(parts,steps) steps_cost(parts,steps) above_parts(one,other) below_parts(one,other)"
              " steps_height(one,other) fewest_steps(one,other) split_first(one,other) steps_hold(one,other,value)"
              " is_between(one,middle,other) is_beside(one,middle,other) judges_paper(rows) judges_hold(rows,value)",
    "sure": "left_likes(likes,steps) sure_steps(likes) sure_holds(likes,value)",
    "texts": "thing_text(value) read_thing(text) text_words(text) text_form(table,text) read_fields(schema,table,texts)"
             " fields_texts(schema,fields) fields_form(schema,table,fields)",
    "twins": "exchanged_text(text,places) exchange_row(one,other) twins_hold(one,other,value) twin_text(text)"
             " twin_count(text) all_twins(text)",
    "chains": "unlike_kind(names,unlikes) kind_holds(names,unlikes,value) fewest_back(names,sames,unlikes)"
              " fewest_chains(names,sames,unlikes) chains_hold(names,sames,unlikes,value) gap_web(names,unlikes)",
    "deeds": "need_lot(value) lot_records(lot) lot_rule(lot) beside_marks(lot) idle_marks(lot) hand_words(lot)"
             " put_words(names,links,bars,sames,unlikes) lot_web(lot) told_people(lot) refused_sames(lot) struck_lot(lot,marks)",
    "desk": "Desk()",
    "house": "WhoHouse(houses,comparers) house_behind(houses,comparers,events)",
    "index": "fields_paper(rule,fields) fields_hold(rule,fields,value) keyed_fields(rule) fewest_fields(rule) Index(rule,fields)",
    "links": "plain_links(rule,records) rule_bars(rule,records) Links(rule,fields)",
    "live": "Live(houses,comparers)",
    "looks": "look_holds(value) make_look(word,question) wrong_looks(values)",
    "moments": "World(houses) events_world(houses,events) vector_at(houses,events,moment,house) told_from(book,vector)"
               " told_at(houses,events,moment,house) possible_fault(book,house,vector) possible_events(book,house,vector)"
               " possible_vectors(book,house) possible_people(book,house)",
    "questions": "turning_answers(names,links,bars,sames,unlikes) leading_paper(names,links,bars,parts)"
                 " leading_many(names,links,bars,parts) answered_people(names,links,bars,sames,unlikes,word,one,other)",
    "rings": "hands_paper(names,sames,unlikes) hands_hold(names,sames,unlikes,value) is_settled(names,sames,unlikes,parts)"
             " words_back(names,sames,unlikes,parts) settled_parts(names,sames,unlikes)"
             " steps_between(names,sames,unlikes,parts,goal) same_paper(names,sames,unlikes,one,other)"
             " same_holds(names,sames,unlikes,one,other,value)",
    "surely": "firm_paper(parts,answers,wrong) firm_holds(parts,answers,wrong,value) fewest_answers(parts,wrong)"
              " further_answers(parts,answers,wrong)",
    "taken": "taken_paper(book,one,other) taken_holds(book,one,other,value)",
    "taught": "taught_paper(answers) taught_holds(answers,value)",
    "why": "told_less(book,marks) told_if(houses,events,moment,event) turn_marks(book,low,high,one,other)"
           " near_marks(book,low,high,one,other) turn_grounds(book,low,high,one,other) turn_needs(book,low,high,one,other)",
    "windows": "change_window(elder,newer) rules_paper(one,other) rules_hold(one,other,value)",
    "values": "told_value(rule,sources) fewest_struck(rule,sources) sum_up(sources) summary_value(rule,summary)"
              " joined_summaries(one,other) without_source(summary,name)",
}
METHODS = {
    "keeping.Keeping": "told_names() told_links() told_bars() told_fates() told_people() put_name(name) take_name(name)"
                       " put_link(weight,one,other) take_link(one,other) put_bar(one,other) take_bar(one,other)",
    "measures.Pairs": "move_name(name,group)",
    "desk.Desk": "say(command)",
    "house.WhoHouse": "web_of(house) vector_of(house) people_of(house) paper_of(house) from_nothing(house) do_event(event)",
    "index.Index": "put_record(name,values) take_record(name) likely_names(values)",
    "links.Links": "put_record(name,values) take_record(name) change_record(name,values) all_links() all_records()",
    "live.Live": "do_event(event) undo_event() redo_event() all_people() people_then(number) people_if(number,event)",
    "moments.World": "do_event(event)",
}


def told(text):
    """(name, parameters) of each call that is written in a text."""
    return [(word[:word.index("(")], [part for part in word[word.index("(") + 1:-1].split(",") if part]) for word in text.split()]


class InterfaceTest(unittest.TestCase):
    def test_functions_and_classes(self):
        for name, text in FUNCTIONS.items():
            module = importlib.import_module("whoiswho." + name)
            for word, parameters in told(text):
                thing = getattr(module, word)
                self.assertEqual(thing.__module__, "whoiswho." + name)
                self.assertEqual(list(inspect.signature(thing).parameters), parameters, (name, word))

    def test_methods(self):
        for name, text in METHODS.items():
            module, word = name.split(".")
            kind = getattr(importlib.import_module("whoiswho." + module), word)
            for method, parameters in told(text):
                self.assertEqual(list(inspect.signature(vars(kind)[method]).parameters), ["self"] + parameters)


if __name__ == "__main__":
    unittest.main()
