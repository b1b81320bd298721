"""Pairs of neighbours in texts, and which pairs are those of a text ([13])."""

from whoiswho.errors import InvalidGrams
from whoiswho.plain import is_rising, is_row_of, is_sequence, is_sign, is_text, is_whole
from whoiswho.plain import need_text, need_texts, tied_lots

MARK = ""
MOST_GRAMS = 41


def grams_of(text):
    """The grams of a text that is known to be right, ascending."""
    row = [MARK] + list(text) + [MARK]
    return tuple(sorted([(row[at - 1], row[at]) for at in range(1, len(row))]))


def text_grams(text):
    """The pairs of neighbours in the text between two marks, ascending, alike ones each."""
    need_text(text)
    return grams_of(text)


def how_often(things):
    """How often each thing comes."""
    often = {}
    for thing in things:
        often[thing] = often.get(thing, 0) + 1
    return often


def gram_distance(one, other):
    """How many grams are in one of both texts alone, each as often."""
    need_texts(one, other)
    ones, others = how_often(grams_of(one)), how_often(grams_of(other))
    grams = sorted(set(list(ones) + list(others)))
    return sum([abs(ones.get(gram, 0) - others.get(gram, 0)) for gram in grams])


def is_gram(value):
    return is_row_of(value, 2) and all([thing == MARK or is_sign(thing) for thing in value])


def need_grams(grams):
    """The grams as tuples, ascending."""
    if not is_sequence(grams) or len(grams) > MOST_GRAMS:
        raise InvalidGrams(-1)
    for at, gram in enumerate(grams):
        if not is_gram(gram):
            raise InvalidGrams(at)
    return tuple(sorted([tuple(gram) for gram in grams]))


def sides(grams, thing):
    """How often a sign or the mark is left, and how often it is right."""
    return len([1 for gram in grams if gram[0] == thing]), len([1 for gram in grams if gram[1] == thing])


def signs_of(grams):
    """Ascending, the signs of the pairs."""
    signs = sorted(set([thing for gram in grams for thing in gram]))
    return [sign for sign in signs if sign != MARK]


def signs_apart(grams):
    """Ascending, the signs that no pairs tie to the mark, by others or not."""
    lots = tied_lots([MARK] + signs_of(grams), grams)
    return tuple([sign for sign in signs_of(grams) if sign not in lots[0]])


def walk_from(start, ahead):
    """Signs from one on, by pairs that are left, until none leads further; they are used up."""
    walk = [start]
    while len(ahead[walk[-1]]) > 0:
        walk.append(ahead[walk[-1]].pop())
    return walk


def text_of(grams):
    """The text of grams of which nothing is wrong."""
    ahead = {thing: [] for thing in [MARK] + signs_of(grams)}
    for left, right in grams:
        ahead[left].append(right)
    row = walk_from(MARK, ahead)
    at = 0
    # What is left hangs together with the walk, so rounds are put in where they begin.
    while at < len(row):
        if len(ahead[row[at]]) > 0:
            row = row[:at] + walk_from(row[at], ahead) + row[at + 1:]
        else:
            at += 1
    return "".join(row[1:-1])


def grams_paper(grams):
    """What is wrong with pairs that are no text's grams, or some text of them."""
    pairs = need_grams(grams)
    left, right = sides(pairs, MARK)
    if left != 1 or right != 1:
        return ("marks", left, right)
    for sign in signs_of(pairs):
        left, right = sides(pairs, sign)
        if left != right:
            return ("uneven", sign, left, right)
    signs = signs_apart(pairs)
    if len(signs) > 0:
        return ("apart", signs)
    return ("text", text_of(pairs))


def are_apart(pairs, value):
    """Whether any value is signs of the pairs that no pair ties to another sign or the mark."""
    if not isinstance(value, tuple) or len(value) == 0 or not all([is_sign(sign) for sign in value]):
        return False
    known = signs_of(pairs)
    if not is_rising(value) or not all([sign in known for sign in value]):
        return False
    return all([(left in value) == (right in value) for left, right in pairs])


def are_sides(pairs, thing, left, right):
    """Whether any two values are how often a sign or the mark is left and right."""
    return is_whole(left) and is_whole(right) and (left, right) == sides(pairs, thing)


def grams_hold(grams, value):
    """Whether any value is a right paper of these pairs, whatever else is wrong with them."""
    pairs = need_grams(grams)
    if not isinstance(value, tuple) or len(value) < 2:
        return False
    word = value[0]
    if word == "marks" and len(value) == 3:
        return are_sides(pairs, MARK, value[1], value[2]) and (value[1], value[2]) != (1, 1)
    if word == "uneven" and len(value) == 4:
        return is_sign(value[1]) and are_sides(pairs, value[1], value[2], value[3]) and value[2] != value[3]
    if word == "apart" and len(value) == 2:
        return are_apart(pairs, value[1])
    if word == "text" and len(value) == 2:
        return is_text(value[1]) and grams_of(value[1]) == pairs
    return False
