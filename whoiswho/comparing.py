"""How far two values of a field are apart ([14])."""

from whoiswho.edits import edit_distance
from whoiswho.errors import InvalidComparer, InvalidSize, InvalidValue
from whoiswho.grams import gram_distance
from whoiswho.plain import is_number, is_sequence, is_text, is_whole, need_text, need_texts
from whoiswho.records import is_text_list

COMPARERS = ("exact", "edits", "grams", "apart", "lists", "shared")


def is_comparer(value):
    return isinstance(value, str) and value in COMPARERS


def need_comparer(comparer):
    if not is_comparer(comparer):
        raise InvalidComparer()


def takes(comparer, value):
    """Whether a comparer takes any value; each takes None."""
    if value is None:
        return True
    if comparer in ("edits", "grams"):
        return is_text(value)
    if comparer == "apart":
        return is_whole(value)
    if comparer in ("lists", "shared"):
        return is_text_list(value)
    return is_text(value) or is_whole(value) or is_text_list(value)


def is_binary(comparer):
    """Whether all distances by a comparer are 0 or 1."""
    return comparer in ("exact", "shared")


def kept_value(value):
    """A value that some comparer takes, lists as tuples."""
    return tuple(value) if is_sequence(value) else value


def lone_many(one, other):
    """How many things are in one of two sequences of unlike things alone."""
    common = len([thing for thing in one if thing in other])
    return len(one) + len(other) - 2 * common


def distance_of(comparer, one, other):
    """As field_distance, of values that the comparer takes."""
    if one is None or other is None:
        return None
    if comparer == "edits":
        return edit_distance(one, other)
    if comparer == "grams":
        return gram_distance(one, other)
    if comparer == "apart":
        return abs(one - other)
    if comparer == "lists":
        return lone_many(one, other)
    if comparer == "shared":
        return 0 if any([thing in other for thing in one]) else 1
    return 0 if kept_value(one) == kept_value(other) else 1


def field_distance(comparer, one, other):
    """How far two values are apart by a comparer, None if one of them is None."""
    need_comparer(comparer)
    for at, value in enumerate((one, other)):
        if not takes(comparer, value):
            raise InvalidValue(at)
    return distance_of(comparer, one, other)


def one_struck(texts):
    """All texts that are left if one sign of one of these is struck, each once."""
    left = {}
    for text in texts:
        for at in range(len(text)):
            left[text[:at] + text[at + 1:]] = True
    return list(left)


def shorter_texts(text, most):
    """Ascending, all that a text leaves if at most so many signs are struck."""
    need_text(text)
    if not is_number(most):
        raise InvalidSize("most")
    found = [text]
    left = [text]
    for _ in range(min(most, len(text))):
        left = one_struck(left)
        found.extend(left)
    return tuple(sorted(found))


def common_length(one, other):
    """How many signs a longest text has that both leave if signs are struck."""
    row = [0 for _ in range(len(other) + 1)]
    for sign in one:
        above = row
        row = [0]
        for j in range(1, len(other) + 1):
            row.append(above[j - 1] + 1 if sign == other[j - 1] else max(above[j], row[j - 1]))
    return row[-1]


def struck_distance(one, other):
    """How many signs must be struck of each at most for a text that both leave."""
    need_texts(one, other)
    return max(len(one), len(other)) - common_length(one, other)
