"""Deeds on texts, the fewest that lead from one to another ([10])."""

from whoiswho.errors import InvalidScript
from whoiswho.plain import is_number, is_sequence, is_sign, need_text, need_texts


def text_behind(text, deed):
    """The text behind a deed, or None if it is none or can't be done."""
    if not is_sequence(deed) or len(deed) < 2 or not is_number(deed[1]):
        return None
    word, place = deed[0], deed[1]
    if len(deed) == 2 and word == "out" and place < len(text):
        return text[:place] + text[place + 1:]
    if len(deed) != 3 or not is_sign(deed[2]):
        return None
    if word == "in" and place <= len(text):
        return text[:place] + deed[2] + text[place:]
    if word == "to" and place < len(text):
        return text[:place] + deed[2] + text[place + 1:]
    return None


def edited_text(text, script):
    """The text behind the deeds of a script, each done on the text as it then is."""
    need_text(text)
    if not is_sequence(script):
        raise InvalidScript(-1)
    here = text
    for at, deed in enumerate(script):
        here = text_behind(here, deed)
        if here is None:
            raise InvalidScript(at)
    return here


def distance_rows(one, other):
    """The rows of edit_table, of texts that are known to be right."""
    return rows_below(one, other, tuple(range(len(other) + 1)))


def rows_below(one, other, first):
    """The rows of a table of distances with this first row."""
    rows = [first]
    for i in range(1, len(one) + 1):
        above = rows[i - 1]
        row = [i]
        for j in range(1, len(other) + 1):
            unlike = 0 if one[i - 1] == other[j - 1] else 1
            row.append(min(above[j] + 1, row[j - 1] + 1, above[j - 1] + unlike))
        rows.append(tuple(row))
    return tuple(rows)


def edit_table(one, other):
    """For each i and each j the distance from the one's first i to the other's first j signs."""
    need_texts(one, other)
    return distance_rows(one, other)


def edit_distance(one, other):
    """The fewest deeds that lead from the one text to the other."""
    need_texts(one, other)
    return distance_rows(one, other)[len(one)][len(other)]


def edit_script(one, other):
    """Fewest deeds that lead from the one text to the other."""
    need_texts(one, other)
    return fewest_deeds(one, other)


def fewest_deeds(one, other):
    """As edit_script, of texts that are known to be right."""
    rows = distance_rows(one, other)
    i, j = len(one), len(other)
    script = []
    # From the end on: then the places of the one that are still to come stay as they are.
    while i > 0 or j > 0:
        if i > 0 and j > 0 and one[i - 1] == other[j - 1]:
            i -= 1
            j -= 1
        elif i > 0 and j > 0 and rows[i][j] == rows[i - 1][j - 1] + 1:
            script.append(("to", i - 1, other[j - 1]))
            i -= 1
            j -= 1
        elif i > 0 and rows[i][j] == rows[i - 1][j] + 1:
            script.append(("out", i - 1))
            i -= 1
        else:
            script.append(("in", i, other[j - 1]))
            j -= 1
    return tuple(script)
