"""Looks: papers beside the questions that they answer, judged by themselves ([71])."""

from whoiswho.errors import Refused, WhoError
from whoiswho.furthest import edit_holds, edit_paper
from whoiswho.naming import names_hold, names_paper
from whoiswho.overlaps import form_holds, form_paper
from whoiswho.papers import pair_holds, pair_paper, people_hold, people_paper
from whoiswho.plain import has_list, in_tuples, is_row_of, is_sequence, is_tuple_of
from whoiswho.rings import hands_hold, hands_paper, same_holds, same_paper
from whoiswho.splits import judges_hold, judges_paper
from whoiswho.taken import taken_holds, taken_paper
from whoiswho.windows import rules_hold, rules_paper

# For each word how many things its question has.
SIZES = {
    "people": 3,
    "pair": 5,
    "names": 3,
    "rules": 2,
    "hands": 3,
    "same": 5,
    "edit": 2,
    "form": 1,
    "taken": 3,
    "judges": 1,
}


def is_look_word(value):
    return isinstance(value, str) and value in SIZES


def people_told(word, question):
    """What is told of people, pairs, hands and sames."""
    first, second, third = question[:3]
    if word == "people":
        return people_paper(first, second, third)
    if word == "pair":
        return pair_paper(first, second, third, question[3], question[4])
    if word == "hands":
        return hands_paper(first, second, third)
    return same_paper(first, second, third, question[3], question[4])


def told_value(word, question):
    """What the function of a word tells of its question."""
    if word in ("people", "pair", "hands", "same"):
        return people_told(word, question)
    if word == "names":
        return names_paper(question[0], question[1], question[2])
    if word == "rules":
        return rules_paper(question[0], question[1])
    if word == "edit":
        return edit_paper(question[0], question[1])
    if word == "form":
        return form_paper(question[0])
    if word == "taken":
        return taken_paper(question[0], question[1], question[2])
    return judges_paper(question[0])


def people_held(word, question, value):
    """Whether a value is right of people, pairs, hands and sames."""
    first, second, third = question[:3]
    if word == "people":
        return people_hold(first, second, third, value)
    if word == "pair":
        return pair_holds(first, second, third, question[3], question[4], value)
    if word == "hands":
        return hands_hold(first, second, third, value)
    return same_holds(first, second, third, question[3], question[4], value)


def is_held(word, question, value):
    """Whether the function of a word finds a value right of its question."""
    if word in ("people", "pair", "hands", "same"):
        return people_held(word, question, value)
    if word == "names":
        return names_hold(question[0], question[1], question[2], value)
    if word == "rules":
        return rules_hold(question[0], question[1], value)
    if word == "edit":
        return edit_holds(question[0], question[1], value)
    if word == "form":
        return form_holds(question[0], value)
    if word == "taken":
        return taken_holds(question[0], question[1], question[2], value)
    return judges_hold(question[0], value)


def look_holds(value):
    """Whether any value is (word, question, value), rightly."""
    if not is_tuple_of(value, 3) or has_list(value) or not is_look_word(value[0]):
        return False
    word, question, told = value
    if not is_tuple_of(question, SIZES[word]):
        return False
    try:
        return is_held(word, question, told)
    except WhoError:
        return False


def make_look(word, question):
    """The look with what is told of a question."""
    if not is_look_word(word):
        raise Refused("word")
    if not is_row_of(question, SIZES[word]):
        raise Refused("question")
    asked = in_tuples(question)
    return word, asked, told_value(word, asked)


def wrong_looks(values):
    """Ascending, the places of those that are no looks that hold."""
    if not is_sequence(values):
        raise Refused("looks")
    return tuple([at for at, value in enumerate(values) if not look_holds(value)])
