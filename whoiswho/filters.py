"""Few marks, pieces and keys that find all values that are near ([19] to [21])."""

from whoiswho.comparing import is_binary, kept_value, lone_many, need_comparer, takes
from whoiswho.errors import InvalidIndex, InvalidLot, InvalidSize, InvalidText, InvalidValue, Refused
from whoiswho.grams import grams_of
from whoiswho.plain import is_number, is_row_of, is_sequence, is_text, is_whole


def are_marks(value):
    """Whether any value is a sequence of unlike numbers."""
    if not is_sequence(value) or not all([is_number(mark) for mark in value]):
        return False
    return len(sorted({mark for mark in value})) == len(value)


def need_number(word, value):
    if not is_number(value):
        raise InvalidSize(word)


def foremost(things, near):
    """The first near + 1 of some things, all and None behind them if there are at most near."""
    if len(things) <= near:
        return tuple(things) + (None,)
    return tuple(things[:near + 1])


def first_marks(order, lot, near):
    """The lot's first near + 1 marks as they come in order, and None behind them if it has at most near."""
    if not are_marks(order):
        raise InvalidLot(0)
    if not are_marks(lot) or not all([mark in order for mark in lot]):
        raise InvalidLot(1)
    need_number("near", near)
    return foremost([mark for mark in order if mark in lot], near)


def is_kept_row(value):
    """Whether any value is (lot, kept), kept marks of the lot."""
    if not is_row_of(value, 2) or not are_marks(value[0]) or not are_marks(value[1]):
        return False
    return all([mark in value[0] for mark in value[1]])


def need_rows(rows):
    """Raises the error of the first that is no (lot, kept), or whose lot stands ahead."""
    if not is_sequence(rows):
        raise InvalidLot(-1)
    seen = {}
    for at, row in enumerate(rows):
        if not is_kept_row(row):
            raise InvalidLot(at)
        lot = tuple(sorted(row[0]))
        if lot in seen:
            raise InvalidLot(at)
        seen[lot] = True


def have_common(one, other):
    return any([mark in other for mark in one])


def keeping_paper(rows, near):
    """("missed", at, behind), the first two rows that are near and keep nothing in common, or ("kept",)."""
    need_rows(rows)
    need_number("near", near)
    for at, (lot, kept) in enumerate(rows):
        for behind in range(at, len(rows)):
            other, others = rows[behind]
            if lone_many(lot, other) <= near and have_common(lot, other) and not have_common(kept, others):
                return ("missed", at, behind)
    return ("kept",)


def places_of(length, near):
    """As piece_places, of numbers."""
    ends = [length * at // (near + 1) for at in range(near + 2)]
    return tuple([(ends[at], ends[at + 1]) for at in range(near + 1)])


def piece_places(length, near):
    """(begin, end) of near + 1 pieces of a text of so many signs."""
    need_number("length", length)
    need_number("near", near)
    return places_of(length, near)


def looks_of(length, near, other):
    """As text_looks, of numbers."""
    looks = []
    for at, (begin, end) in enumerate(places_of(length, near)):
        for shift in range(-at, at + 1):
            fits = 0 <= begin + shift and end + shift <= other
            if fits and abs(other - length - shift) <= near - at:
                looks.append((at, begin + shift))
    return looks


def text_looks(length, near, other):
    """Ascending, the looks for pieces of a text of so many signs in texts of other many."""
    need_number("length", length)
    need_number("near", near)
    need_number("other", other)
    return tuple(looks_of(length, near, other))


def pieces_of(text, near):
    return [text[begin:end] for begin, end in places_of(len(text), near)]


def looks_found(one, other, near):
    """As found_looks, of texts and a number."""
    pieces = pieces_of(one, near)
    looks = looks_of(len(one), near, len(other))
    return [(at, begin) for at, begin in looks if other[begin:begin + len(pieces[at])] == pieces[at]]


def found_looks(one, other, near):
    """Ascending, the looks for pieces of the one text that find them in the other."""
    if not is_text(one):
        raise InvalidText(0)
    if not is_text(other):
        raise InvalidText(1)
    need_number("near", near)
    return tuple(looks_found(one, other, near))


def spoilt_pieces(pieces, shift, stranger):
    """Pieces of unlike signs, two or more each, with one edit in each: they end so much later.

    The stranger is a sign of none of them. What is left of a piece is nowhere the piece.
    """
    spoilt = []
    for at, piece in enumerate(pieces):
        if at >= abs(shift):
            spoilt.append(piece[1] + piece[1:])
        elif shift > 0:
            spoilt.append(piece[0] + stranger + piece[1:])
        else:
            spoilt.append(piece[1:])
    return "".join(spoilt)


def is_look(value, looks):
    """Whether any value is one of these looks."""
    return is_row_of(value, 2) and is_whole(value[0]) and is_whole(value[1]) and tuple(value) in looks


def spoilt_text(text, near, look, other):
    """A text of other signs, at most near edits apart, that one look alone finds."""
    if not is_text(text):
        raise InvalidText(-1)
    need_number("near", near)
    need_number("other", other)
    if len(text) < 2 * (near + 1) or len(sorted({sign for sign in text})) < len(text):
        raise Refused(-1)
    if not is_look(look, looks_of(len(text), near, other)):
        raise InvalidIndex(-1)
    at, begin = look
    pieces = pieces_of(text, near)
    shift = begin - places_of(len(text), near)[at][0]
    # The stranger is of the piece that stays, whose next sign doesn't come behind it there.
    ahead = spoilt_pieces(pieces[:at], shift, pieces[at][0])
    return ahead + pieces[at] + spoilt_pieces(pieces[at + 1:], other - len(text) - shift, pieces[at][0])


def numbered(things):
    """Things in their order, alike ones numbered from 0."""
    often = {}
    rows = []
    for thing in things:
        rows.append(thing + (often.get(thing, 0),))
        often[thing] = often.get(thing, 0) + 1
    return rows


def once(things):
    """Each of some things once."""
    return tuple(list({thing: True for thing in things}))


def put_pieces(text, near):
    """The pieces of a text, each with the text's length and its place."""
    return tuple([(len(text), at, piece) for at, piece in enumerate(pieces_of(text, near))])


def asked_pieces(text, near):
    """What looks for pieces of any texts find in this one."""
    keys = []
    for length in range(max(0, len(text) - near), len(text) + near + 1):
        places = places_of(length, near)
        for at, begin in looks_of(length, near, len(text)):
            size = places[at][1] - places[at][0]
            keys.append((length, at, text[begin:begin + size]))
    return once(keys)


def asked_stretches(number, near):
    """The stretches of 2 * near + 1 numbers that numbers so near may lie in."""
    wide = 2 * near + 1
    return once([(number - near) // wide, (number + near) // wide])


def plain_keys(comparer, near, value):
    """The keys of a value that are put and asked alike."""
    if comparer == "exact":
        return (value,)
    if comparer == "shared":
        return value
    if comparer == "lists":
        return foremost(value, near)
    return foremost(numbered(grams_of(value)), near)


def keys_of(comparer, near, value, asked):
    """As put_keys, or as asked_keys if they are asked."""
    need_comparer(comparer)
    need_number("near", near)
    if not takes(comparer, value):
        raise InvalidValue(0)
    if near > 0 and is_binary(comparer):
        return None
    if value is None:
        return ()
    if comparer == "edits":
        return asked_pieces(value, near) if asked else put_pieces(value, near)
    if comparer == "apart":
        return asked_stretches(value, near) if asked else (value // (2 * near + 1),)
    return plain_keys(comparer, near, kept_value(value))


def put_keys(comparer, near, value):
    """The keys that a value puts, None if there are none for the comparer and near."""
    return keys_of(comparer, near, value, False)


def asked_keys(comparer, near, value):
    """The keys that a value asks, None if there are none for the comparer and near."""
    return keys_of(comparer, near, value, True)
