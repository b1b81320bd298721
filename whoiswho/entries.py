"""Values written in signs, numbers below 256, so that spoilt ones are told ([59], [60])."""

from whoiswho.errors import InvalidEntry, InvalidSize, InvalidValue
from whoiswho.plain import is_below, is_sequence, is_text, is_whole

HEAD = (87, 72)
DEEPEST = 10
MOST_VALUE_SIGNS = 4088
MOST_SIGNS = 4096
PRIME = 65521
PERCENT = 37
# What the kinds 0, 1, 2 stand for.
PLAIN = (None, False, True)
# The letters that can be written, by their codes from 32 on, without that of code 37.
LETTERS = " !\"#$&'()*+,-./0123456789:;<=>?@ABCDEFGHIJKLMNOPQRSTUVWXYZ[\\]^_`abcdefghijklmnopqrstuvwxyz{|}~"


def can_write(value, deep):
    """Whether any value can be written that has so many tuples around it."""
    if value is None or isinstance(value, (bool, int)):
        return True
    if isinstance(value, str):
        return is_text(value) and all([ord(letter) != PERCENT for letter in value])
    if not isinstance(value, tuple) or deep == DEEPEST:
        return False
    return all([can_write(thing, deep + 1) for thing in value])


def number_signs(number):
    """The signs of a number from 0 on: seven bits each, the least first, all but the last marked."""
    signs = []
    left = number
    while left > 127:
        signs.append((left & 127) + 128)
        left = left >> 7
    signs.append(left)
    return signs


def value_signs(value):
    """The signs of a value that can be written."""
    if value is None:
        return [0]
    if isinstance(value, bool):
        return [2] if value else [1]
    if is_whole(value):
        return [3] + number_signs(2 * value if value >= 0 else -2 * value - 1)
    if isinstance(value, str):
        return [4] + number_signs(len(value)) + [ord(letter) for letter in value]
    signs = [5] + number_signs(len(value))
    for thing in value:
        signs.extend(value_signs(thing))
    return signs


def are_signs(value):
    return is_sequence(value) and all([is_below(sign, 256) for sign in value])


def two_sums(signs):
    """The sum of the signs, and of each times its place from 1, by their rests."""
    plain = sum(signs)
    placed = sum([sign * (at + 1) for at, sign in enumerate(signs)])
    return plain % PRIME, placed % PRIME


def sum_pair(signs):
    """The two sums of a row of signs."""
    if not are_signs(signs):
        raise InvalidEntry("signs")
    return two_sums(signs)


def two_signs(number):
    return [number % 256, number // 256]


def write_entry(value):
    """The entry of a value, a tuple of signs."""
    if not can_write(value, 0):
        raise InvalidValue(-1)
    told = value_signs(value)
    if len(told) > MOST_VALUE_SIGNS:
        raise InvalidSize("entry")
    signs = list(HEAD) + two_signs(len(told)) + told
    plain, placed = two_sums(signs)
    return tuple(signs + two_signs(plain) + two_signs(placed))


def read_number(signs, at):
    """(number, where it ends), of the signs from a place on, or None if there is none."""
    number, unit, here = 0, 1, at
    while here < len(signs) and signs[here] > 127:
        number += (signs[here] - 128) * unit
        unit = unit * 128
        here += 1
    # A last sign of 0 behind others would be a second way to write the same number.
    if here == len(signs) or (signs[here] == 0 and here > at):
        return None
    return number + signs[here] * unit, here + 1


def read_letters(signs, begin, many):
    """(text, where it ends), of so many letters from a place on, or None if they are none."""
    codes = signs[begin:begin + many]
    if len(codes) < many or not all([32 <= code <= 126 and code != PERCENT for code in codes]):
        return None
    text = "".join([LETTERS[code - 32 if code < PERCENT else code - 33] for code in codes])
    return text, begin + many


def read_things(signs, begin, many, deep):
    """(tuple, where it ends), of so many values from a place on, or None if they are none."""
    if deep == DEEPEST:
        return None
    things = []
    here = begin
    while len(things) < many:
        read = read_value(signs, here, deep + 1)
        if read is None:
            return None
        things.append(read[0])
        here = read[1]
    return tuple(things), here


def read_value(signs, at, deep):
    """(value, where it ends), of the signs from a place on, or None if there is none."""
    if at == len(signs) or signs[at] > 5:
        return None
    kind = signs[at]
    if kind < 3:
        return PLAIN[kind], at + 1
    read = read_number(signs, at + 1)
    if read is None:
        return None
    number, here = read
    if kind == 4:
        return read_letters(signs, here, number)
    if kind == 5:
        return read_things(signs, here, number, deep)
    return (number // 2 if number % 2 == 0 else -(number + 1) // 2), here


def entry_length(signs):
    """How many signs an entry with this beginning has."""
    return 4 + signs[2] + 256 * signs[3] + 4


def entry_fault(signs):
    """The word of what is wrong in an entry but for its value, or None."""
    if tuple(signs[:2]) != HEAD[:len(signs)]:
        return "head"
    if len(signs) < 4 or len(signs) < entry_length(signs):
        return "short"
    if len(signs) > entry_length(signs) or len(signs) > MOST_SIGNS:
        return "long"
    plain, placed = two_sums(signs[:-4])
    if list(signs[-4:]) != two_signs(plain) + two_signs(placed):
        return "sums"
    return None


def read_entry(signs):
    """The value of an entry."""
    if not are_signs(signs):
        raise InvalidEntry("signs")
    fault = entry_fault(signs)
    if fault is not None:
        raise InvalidEntry(fault)
    told = signs[4:-4]
    read = read_value(told, 0, 0)
    if read is None or read[1] != len(told):
        raise InvalidEntry("value")
    return read[0]


def next_entry(log, begin):
    """(value, where it ends), of the entry that stands whole from a sign on, or None if there is none."""
    if len(log) < begin + 4:
        return None
    end = begin + entry_length(log[begin:begin + 4])
    try:
        return read_entry(log[begin:end]), end
    except InvalidEntry:
        return None


def read_log(log):
    """(values, signs): of the entries that stand whole from the first sign on, and their signs."""
    if not are_signs(log):
        raise InvalidEntry("signs")
    values = []
    here = 0
    entry = next_entry(log, 0)
    while entry is not None:
        values.append(entry[0])
        here = entry[1]
        entry = next_entry(log, here)
    return tuple(values), here
