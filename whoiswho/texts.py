"""Things as texts, and fields of records from texts ([9])."""

from whoiswho.errors import InvalidDay, InvalidField, InvalidText, InvalidValue
from whoiswho.forms import form_of, is_word, need_table
from whoiswho.plain import is_row_of, is_sequence, is_text, is_whole
from whoiswho.records import day_text, need_fields, need_schema, read_day

DEEPEST = 12
MOST_FIGURES = 400
# No number of at most so many figures has more bits.
MOST_BITS = 1329
MOST_FIELD_FIGURES = 30
FIGURES = "0123456789"


def is_short_whole(value):
    """Whether a value is an integer of few enough figures."""
    return is_whole(value) and value.bit_length() <= MOST_BITS and len(str(abs(value))) <= MOST_FIGURES


def is_thing(value, deep):
    """Whether any value is a thing that so many tuples may be in, one within another."""
    if value is None or is_short_whole(value) or is_text(value):
        return True
    if not is_sequence(value) or deep == 0:
        return False
    return all([is_thing(thing, deep - 1) for thing in value])


def told_thing(thing):
    """The text of what is known to be a thing."""
    if thing is None:
        return "?"
    if isinstance(thing, str):
        return "'" + thing.replace("'", "''") + "'"
    if is_sequence(thing):
        return "(" + " ".join([told_thing(part) for part in thing]) + ")"
    return str(thing)


def thing_text(value):
    """The text of any value, if it is a thing."""
    if not is_thing(value, DEEPEST):
        raise InvalidValue(-1)
    return told_thing(value)


def need_sign(text, at, signs):
    """The sign at a place, if it is one of these."""
    if at == len(text) or text[at] not in signs:
        raise InvalidText(at)
    return text[at]


def read_whole(text, begin):
    """(integer, where it ends), of the figures, perhaps behind a minus, from a place on."""
    behind = begin + 1 if text[begin] == "-" else begin
    first = need_sign(text, behind, FIGURES[1:] if behind > begin else FIGURES)
    end = behind + 1
    # Behind a first 0 no figure may come: each integer has one text.
    while first != "0" and end < len(text) and text[end] in FIGURES and end - behind < MOST_FIGURES:
        end += 1
    return int(text[begin:end]), end


def read_quoted(text, begin):
    """(text, where it ends), of a quote and what comes behind it."""
    signs = []
    at = begin + 1
    while True:
        if at == len(text) or not is_text(text[at]):
            raise InvalidText(at)
        if text[at] == "'":
            if text[at + 1:at + 2] != "'":
                return "".join(signs), at + 1
            at += 1
        signs.append(text[at])
        at += 1


def read_row(text, begin, deep):
    """(tuple, where it ends), of a bracket and what comes behind it; so many may be within."""
    if begin + 1 < len(text) and text[begin + 1] == ")":
        return (), begin + 2
    things = []
    at = begin
    sign = " "
    while sign == " ":
        thing, at = read_next(text, at + 1, deep)
        things.append(thing)
        sign = need_sign(text, at, " )")
    return tuple(things), at + 1


def read_next(text, at, deep):
    """(thing, where it ends), of the thing that begins at a place; so many tuples may be in it."""
    sign = need_sign(text, at, FIGURES + "?'-" + ("(" if deep > 0 else ""))
    if sign == "?":
        return None, at + 1
    if sign == "'":
        return read_quoted(text, at)
    if sign == "(":
        return read_row(text, at, deep - 1)
    return read_whole(text, at)


def read_thing(text):
    """The thing with this text, of any value."""
    if not isinstance(text, str):
        raise InvalidText(-1)
    thing, end = read_next(text, 0, DEEPEST)
    if end < len(text):
        raise InvalidText(end)
    return thing


def words_of(text):
    """As text_words, of a text that is known to be right."""
    signs = [sign if is_word(sign) else " " for sign in text.lower()]
    return tuple("".join(signs).split())


def text_words(text):
    """The longest stretches of letters, made small, and figures."""
    if not is_text(text):
        raise InvalidText(-1)
    return words_of(text)


def told_form(rules, text):
    """As text_form, of a table and a text that are known to be right."""
    words = words_of(text)
    return " ".join(form_of(rules, words)) if len(words) > 0 else None


def text_form(table, text):
    """The form of a text's words, a blank between two, or None for no words."""
    rules = need_table(table)
    if not is_text(text):
        raise InvalidText(-1)
    return told_form(rules, text)


def list_form(rules, texts):
    """The forms of texts, each once, ascending, or None for no words."""
    forms = [told_form(rules, text) for text in texts]
    told = sorted({form for form in forms if form is not None})
    return tuple(told) if len(told) > 0 else None


def read_number(text):
    """The integer of some figures, perhaps behind a minus, or None."""
    figures = text[1:] if text[:1] == "-" else text
    if not 1 <= len(figures) <= MOST_FIELD_FIGURES or not all([figure in FIGURES for figure in figures]):
        return None
    return int(text)


def number_of_day(text):
    """As read_day, but None for what is no day."""
    try:
        return read_day(text)
    except InvalidDay:
        return None


def read_field(rules, kind, at, text):
    """The value of a field of a kind, from a text that is known to be one."""
    told = text.strip(" ")
    if told == "":
        return None
    if kind == "text":
        return told_form(rules, text)
    if kind == "list":
        return list_form(rules, text.split(";"))
    value = read_number(told) if kind == "number" else number_of_day(told)
    if value is None:
        raise InvalidField(at)
    return value


def read_fields(schema, table, texts):
    """The fields that texts tell, one for each."""
    kinds, rules = need_schema(schema), need_table(table)
    if not is_row_of(texts, len(kinds)):
        raise InvalidField(-1)
    fields = []
    for at, text in enumerate(texts):
        if not is_text(text):
            raise InvalidField(at)
        fields.append(read_field(rules, kinds[at], at, text))
    return tuple(fields)


def field_text(kind, value):
    """The text of a value of a kind."""
    if value is None:
        return ""
    if kind == "list":
        return ";".join([text.replace(";", " ") for text in value])
    if kind == "day":
        return day_text(value)
    return str(value)


def fields_texts(schema, fields):
    """A text for each field."""
    kinds = need_schema(schema)
    told = need_fields(kinds, fields)
    return tuple([field_text(kind, told[at]) for at, kind in enumerate(kinds)])


def field_form(rules, kind, value):
    if value is None or kind in ("number", "day"):
        return value
    if kind == "list":
        return list_form(rules, value)
    return told_form(rules, value)


def fields_form(schema, table, fields):
    """The fields with the forms of their texts and lists."""
    kinds, rules = need_schema(schema), need_table(table)
    told = need_fields(kinds, fields)
    return tuple([field_form(rules, kind, told[at]) for at, kind in enumerate(kinds)])
