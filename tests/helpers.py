"""What the tests share: odd values, changed papers, calls in several ways."""

import copy
import inspect
import os
import random
import sys

sys.path.insert(0, os.path.join(os.path.dirname(os.path.abspath(__file__)), ".."))

from whoiswho.best import Likes  # noqa: E402
from whoiswho.errors import InvalidSize, WhoError  # noqa: E402
from whoiswho.measures import Pairs  # noqa: E402


def deep_value(depth):
    value = 0
    for _ in range(depth):
        value = (value,)
    return value


def odd_values():
    """Any values of many kinds, among them objects of the package and truths."""
    return [
        True, False, None, -1, 0, 1, 2, 7, 10 ** 20, "", "a", "put", "order", "best", "text", "day", "\n", "\x7f",
        "2024-02-30", (), [], (0,), [0], (0, 0), [0, 0], (0, 1), (True, 0), (0, False), (0, -1), ((),), [[]],
        ((0, 0),), [(0, 0)], [[0, 0]], ([0, 0],), (((0, 0),),), ((0, 0), (0, 0)), ((0, 1), (0, 0)), ("a",), ["a"],
        ("", ""), ("text", "a"), ("best",), ("bound",), (None,), ((None, None),), deep_value(12),
        Likes(1, (), ()), [Likes(1, (), ())], Pairs((), ()), InvalidSize("many"), (InvalidSize("many"), 0),
    ]


def strict(value):
    """A form in which truths are not integers and lists are not tuples."""
    if isinstance(value, (list, tuple)):
        return (type(value).__name__, tuple(strict(thing) for thing in value))
    if hasattr(value, "__dict__"):
        return (type(value).__name__, strict(list(vars(value).values())))
    if isinstance(value, dict):
        return ("dict", strict(sorted(value.items())))
    return (type(value).__name__, value)


def same(one, other):
    return strict(one) == strict(other)


def in_lists(value):
    if isinstance(value, (list, tuple)):
        return [in_lists(thing) for thing in value]
    return value


def has_list(value):
    if isinstance(value, list):
        return True
    return isinstance(value, tuple) and any(has_list(thing) for thing in value)


def outcome(function, *args, **names):
    """What a call returns, or the class and the kept arguments of its error."""
    try:
        return ("returns", strict(function(*args, **names)))
    except WhoError as error:
        return ("raises", type(error).__name__, strict(sorted(vars(error).items(), key=lambda item: item[0])))


def check_ways(test, function, args, lists=()):
    """By position, by names, with lists at some places: one result in tuples, arguments unchanged."""
    args = list(args)
    before = copy.deepcopy(args)
    first = outcome(function, *args)
    names = list(inspect.signature(function).parameters)
    named = dict(zip(names, args))
    test.assertEqual(first, outcome(function, **named))
    test.assertEqual(first, outcome(function, **dict(reversed(list(named.items())))))
    changed = [in_lists(arg) if at in lists else arg for at, arg in enumerate(args)]
    kept = copy.deepcopy(changed)
    test.assertEqual(first, outcome(function, *changed))
    test.assertTrue(same(before, args))
    test.assertTrue(same(kept, changed))
    if first[0] == "returns":
        test.assertFalse(has_list(function(*changed)))
    return first


def changed_values(value, choice, many):
    """Values like this one, each with one or two places changed."""
    out = []
    for _ in range(many):
        changed = one_change(value, choice)
        if choice.random() < 0.3:
            changed = one_change(changed, choice)
        out.append(changed)
    return out


def one_change(value, choice):
    if isinstance(value, (tuple, list)) and len(value) > 0 and choice.random() < 0.85:
        at = choice.randrange(len(value))
        rows = list(value)
        kind = choice.random()
        if kind < 0.7:
            rows[at] = one_change(rows[at], choice)
        elif kind < 0.8:
            del rows[at]
        elif kind < 0.9:
            rows.insert(at, rows[choice.randrange(len(rows))])
        else:
            other = choice.randrange(len(rows))
            rows[at], rows[other] = rows[other], rows[at]
        return tuple(rows) if isinstance(value, tuple) else rows
    if isinstance(value, tuple):
        return choice.choice([list(value), value + (0,), value[:-1], None, (value,)])
    if isinstance(value, list):
        return tuple(value)
    if isinstance(value, bool):
        return choice.choice([not value, int(value), None])
    if isinstance(value, int):
        return choice.choice([value + 1, value - 1, -value, bool(value), None, str(value), value * 2])
    if isinstance(value, str):
        return choice.choice([value + "a", value[:-1], "", "b", "two", "one", "marks", None, 0])
    return choice.choice([0, 1, "a", (), True])


def chance(seed):
    return random.Random(seed)


def keeps(test, error, kept, function, *args, **names):
    """That a call raises just this error with these things in its attributes."""
    try:
        result = function(*args, **names)
    except WhoError as raised:
        test.assertIs(type(raised), error)
        test.assertTrue(same(list(vars(raised).values()), [kept]),
                        (function.__name__, args, vars(raised), kept))
        return
    test.fail("%s(%r) returned %r" % (function.__name__, args, result))
