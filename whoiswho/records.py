"""Schemas, fields, names, records, and days ([5])."""

from whoiswho.errors import InvalidDay, InvalidField, InvalidName, InvalidRecord, InvalidSchema
from whoiswho.plain import is_name, is_number, is_rising, is_row_of, is_sequence, is_text, is_whole

KINDS = ("text", "number", "day", "list")
MOST_FIELDS = 12
LAST_YEAR = 9999
LAST_DAY = 3652058
MONTH_DAYS = (31, 28, 31, 30, 31, 30, 31, 31, 30, 31, 30, 31)
FIGURES = "0123456789"


def is_kind(value):
    return isinstance(value, str) and value in KINDS


def need_schema(value):
    """Any value as a tuple, if it is a schema."""
    if not is_sequence(value) or not 1 <= len(value) <= MOST_FIELDS:
        raise InvalidSchema(-1)
    for at, kind in enumerate(value):
        if not is_kind(kind):
            raise InvalidSchema(at)
    return tuple(value)


def is_day(value):
    return is_number(value) and value <= LAST_DAY


def is_text_list(value):
    """Whether a value is a sequence of unlike texts, ascending."""
    return is_sequence(value) and all([is_text(text) for text in value]) and is_rising(value)


def is_of_kind(kind, value):
    """Whether any value can stand in a field of this kind."""
    if value is None:
        return True
    if kind == "text":
        return is_text(value)
    if kind == "number":
        return is_whole(value)
    if kind == "day":
        return is_day(value)
    return is_text_list(value)


def need_fields(schema, value):
    """Any value as a tuple, if it is fields of the schema."""
    return fields_of(need_schema(schema), value)


def fields_of(kinds, value):
    """As need_fields, of a schema that is known to be right."""
    if not is_row_of(value, len(kinds)):
        raise InvalidField(-1)
    for at, thing in enumerate(value):
        if not is_of_kind(kinds[at], thing):
            raise InvalidField(at)
    return tuple([tuple(thing) if is_sequence(thing) else thing for thing in value])


def need_name(value):
    """Any value as a tuple, if it is a name (house, number)."""
    if not is_name(value):
        raise InvalidName(-1)
    return tuple(value)


def need_record(schema, value):
    """Any value as a tuple, if it is a record (name, fields) of the schema."""
    return record_of(need_schema(schema), value)


def record_of(kinds, value):
    if not is_row_of(value, 2):
        raise InvalidRecord(-1)
    name = need_name(value[0])
    return name, fields_of(kinds, value[1])


def is_record(kinds, value):
    if not is_row_of(value, 2) or not is_name(value[0]) or not is_row_of(value[1], len(kinds)):
        return False
    return all([is_of_kind(kinds[at], thing) for at, thing in enumerate(value[1])])


def need_records(schema, value):
    """Any value in tuples, if it is records of the schema by rising names."""
    kinds = need_schema(schema)
    if not is_sequence(value):
        raise InvalidRecord(-1)
    records = []
    for at, thing in enumerate(value):
        if not is_record(kinds, thing):
            raise InvalidRecord(at)
        record = record_of(kinds, thing)
        if at > 0 and not records[at - 1][0] < record[0]:
            raise InvalidRecord(at)
        records.append(record)
    return tuple(records)


def is_leap(year):
    return year % 4 == 0 and (year % 100 != 0 or year % 400 == 0)


def month_days(year, month):
    """How many days a month has."""
    if month == 2 and is_leap(year):
        return 29
    return MONTH_DAYS[month - 1]


def days_ahead(year):
    """How many days there are ahead of a year, from the first day of year 1 on."""
    elder = year - 1
    return 365 * elder + elder // 4 - elder // 100 + elder // 400


def is_from_one(value, most):
    return is_whole(value) and 1 <= value <= most


def day_number(year, month, day):
    """The number of a day, that of the first day of year 1 being 0."""
    if not is_from_one(year, LAST_YEAR):
        raise InvalidDay(0)
    if not is_from_one(month, 12):
        raise InvalidDay(1)
    if not is_from_one(day, month_days(year, month)):
        raise InvalidDay(2)
    return days_ahead(year) + sum([month_days(year, elder) for elder in range(1, month)]) + day - 1


def day_of(number):
    """(year, month, day) of a day's number."""
    if not is_day(number):
        raise InvalidDay(-1)
    # No year has more than 366 days, so this year is not too late, and not much too early.
    year = number // 366 + 1
    while days_ahead(year + 1) <= number:
        year += 1
    month, day = 1, number - days_ahead(year) + 1
    while day > month_days(year, month):
        day -= month_days(year, month)
        month += 1
    return year, month, day


def day_text(number):
    """A day by four, two and two figures."""
    year, month, day = day_of(number)
    return f"{year:04d}-{month:02d}-{day:02d}"


def read_day(text):
    """The day's number that a text by four, two and two figures tells."""
    if not isinstance(text, str) or len(text) != 10 or text[4] != "-" or text[7] != "-":
        raise InvalidDay(-1)
    figures = text[:4] + text[5:7] + text[8:]
    if not all([figure in FIGURES for figure in figures]):
        raise InvalidDay(-1)
    return day_number(int(figures[:4]), int(figures[4:6]), int(figures[6:]))
