"""Texts with the same grams, and the exchanges that lead from one to another ([14])."""

from whoiswho.errors import InvalidIndex, InvalidSize, Refused
from whoiswho.grams import grams_of
from whoiswho.plain import is_below, is_row_of, is_tuple_of, need_text, need_texts

MOST_SIGNS = 12


def may_exchange(text, places):
    """Whether what lies between four places of a text may change places."""
    i, j, k, last = places
    return i < j <= k < last and text[i] == text[k] and text[j] == text[last]


def text_behind(text, places):
    """The text behind an exchange that may be."""
    i, j, k, last = places
    return text[:i + 1] + text[k + 1:last] + text[j:k + 1] + text[i + 1:j] + text[last:]


def exchanged_text(text, places):
    """The text in which what lies between i and j and what lies between k and l change places."""
    need_text(text)
    if not is_row_of(places, 4) or not all([is_below(place, len(text)) for place in places]):
        raise InvalidIndex(-1)
    if not may_exchange(text, places):
        raise Refused(-1)
    return text_behind(text, places)


def alike_signs(one, other):
    """With how many signs alike two texts of one length begin."""
    at = 0
    while at < len(one) and one[at] == other[at]:
        at += 1
    return at


def places_for(text, at, sign):
    """Places of an exchange that leaves the text up to a place, and puts this sign there; None if there are none.

    The sign ahead of the place stands ahead of the sign again, at k.
    """
    pairs = [k for k in range(at, len(text) - 1) if text[k] == text[at - 1] and text[k + 1] == sign]
    for k in pairs:
        for j in range(at, k + 1):
            last = text.find(text[j], k + 1)
            if last != -1:
                return at - 1, j, k, last
    return None


def exchange_row(one, other):
    """Exchanges in order from the one to the other, fewer than its signs; None if none lead there."""
    need_texts(one, other)
    if grams_of(one) != grams_of(other):
        return None
    row = []
    here = one
    at = alike_signs(here, other)
    while at < len(other):
        # Texts of the same grams begin with the same sign, and such places are always there.
        places = places_for(here, at, other[at])
        row.append(places)
        here = text_behind(here, places)
        at = alike_signs(here, other)
    return tuple(row)


def twins_hold(one, other, value):
    """Whether any value is exchanges in order, in tuples, from the one to the other."""
    need_texts(one, other)
    if not isinstance(value, tuple):
        return False
    here = one
    for places in value:
        if not is_tuple_of(places, 4) or not all([is_below(place, len(here)) for place in places]):
            return False
        if not may_exchange(here, places):
            return False
        here = text_behind(here, places)
    return here == other


def need_short(text):
    need_text(text)
    if len(text) > MOST_SIGNS:
        raise InvalidSize("text")


def texts_away(text):
    """All texts an exchange away, perhaps the text itself, too."""
    places = list(range(len(text)))
    pairs = [(j, last) for j in places for last in places if j < last and text[j] == text[last]]
    rows = [(i, j, k, last) for i, k in pairs for j, last in pairs if i < j <= k < last]
    return [text_behind(text, row) for row in rows]


def twin_text(text):
    """Some unlike text an exchange away, or None."""
    need_short(text)
    unlike = [other for other in texts_away(text) if other != text]
    return min(unlike) if len(unlike) > 0 else None


def twins_of(text):
    """As all_twins, of a text that is known to be right."""
    found = [text]
    seen = {text: True}
    at = 0
    while at < len(found):
        here = found[at]
        at += 1
        for other in texts_away(here):
            if other not in seen:
                seen[other] = True
                found.append(other)
    return tuple(sorted(found))


def twin_count(text):
    """How many texts have the grams of this one, itself too."""
    need_short(text)
    return len(twins_of(text))


def all_twins(text):
    """Ascending, all texts with the grams of this one, itself too."""
    need_short(text)
    return twins_of(text)
