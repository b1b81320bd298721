"""Worlds of houses for the tests: deeds, letters, and the book that they come to."""


def named_marks(word):
    return [thing for thing in word[1:] if word[0] in ("change", "same", "unlike", "back")
            and isinstance(thing, tuple) and len(thing) == 2 and all(type(part) is int for part in thing)
            and (word[0] != "change" or thing is word[1])]


def some_word(choice, book, seen):
    known = [(house, number) for house, many in enumerate(seen) for number in range(many)]
    puts = [mark for mark in known if book[mark[0]][mark[1]][1][0] == "put"]
    others = [mark for mark in known if book[mark[0]][mark[1]][1][0] not in ("back", "day")]
    kind = choice.choice(["put", "put", "change", "same", "unlike", "rule", "day", "back", "back"])
    if kind == "change" and puts:
        return ("change", choice.choice(puts), (choice.choice("abc"),))
    if kind in ("same", "unlike") and len(puts) > 1:
        return (kind,) + tuple(sorted(choice.sample(puts, 2)))
    if kind == "back" and others:
        return ("back", choice.choice(others))
    if kind in ("rule", "day"):
        return (kind, ((), choice.randint(0, 3)))
    return ("put", (choice.choice("abc"),))


RULES = (
    ((("edits", 0, 1, (0, 5, 2, -3)),), 2, ()),
    ((("edits", 0, 1, (0, 5, 2, -3)),), 4, (((0, "unlike"),),)),
    ((("edits", 1, 2, (1, 4, 1, -1)),), 1, (((0, "lacking"),),)),
    ((("exact", 0, 0, (0, 3, 0, -1)),), 3, (((0, "unlike"),),)),
    ((("grams", 0, 2, (-1, 6, 3, 0)),), 3, ()),
    ((("exact", 0, 0, (1, 1, 1, 1)),), 1, ()),
)


def whole_word(choice, book, seen, kinds, fields, rules):
    """A word of one of these kinds, a put or a rule where none can be; fields for a put or a change, one of the rules."""
    known = [(house, number) for house, many in enumerate(seen) for number in range(many)]
    puts = [mark for mark in known if book[mark[0]][mark[1]][1][0] == "put"]
    others = [mark for mark in known if book[mark[0]][mark[1]][1][0] not in ("back", "day")]
    kind = choice.choice(kinds)
    if kind == "change" and puts:
        return ("change", choice.choice(puts), fields)
    if kind in ("same", "unlike") and len(puts) > 1:
        return (kind,) + tuple(sorted(choice.sample(puts, 2)))
    if kind == "back" and others:
        return ("back", choice.choice(others))
    if kind == "rule" or not known:
        return ("rule", choice.choice(rules))
    if kind == "day":
        return ("day", ((0, choice.randint(0, 3)), ()))
    return ("put", fields)


def told_word(choice, book, seen):
    """A word by which people are told: records and rules of one field, of texts."""
    kinds = ["put", "put", "put", "change", "same", "same", "unlike", "rule", "day", "back", "back"]
    return whole_word(choice, book, seen, kinds, (choice.choice(["a", "ab", "b", "abc", "", None]),), RULES)


def some_world(choice, houses, deeds, some_word=some_word):
    """(book, vectors that houses had at some time), all closed."""
    book = [[] for _ in range(houses)]
    vectors = [[0] * houses for _ in range(houses)]
    had = []
    while sum(map(len, book)) < deeds:
        house = choice.randrange(houses)
        if choice.random() < 0.5:
            other = choice.choice(had)[1] if had and choice.random() < 0.3 else tuple(choice.choice(vectors))
            vectors[house] = [max(pair) for pair in zip(vectors[house], other)]
        else:
            seen = tuple(vectors[house])
            book[house].append((seen, some_word(choice, book, seen)))
            vectors[house][house] += 1
        had.append((house, tuple(vectors[house])))
    return tuple(map(tuple, book)), [vector for _, vector in had] + [(0,) * houses, tuple(map(len, book))]


def joined(one, other):
    """Of each house the longer row."""
    return tuple(max(pair, key=len) for pair in zip(one, other))


def plain_done(state, event):
    """(state, what is told) behind an event of a world, or None if it can't be done.

    A state is (deeds by houses, vectors, letters), lists of tuples.
    """
    book, vectors, letters = state
    kind, house = event[0], event[1]
    vector = vectors[house]
    if kind == "write":
        return (book, vectors, letters + [vector]), len(letters)
    if kind == "read":
        if event[2] >= len(letters):
            return None
        vector = tuple(max(pair) for pair in zip(vector, letters[event[2]]))
        return (book, vectors[:house] + [vector] + vectors[house + 1:], letters), vector
    named = {"change": event[2][1:2], "same": event[2][1:], "unlike": event[2][1:], "back": event[2][1:]}.get(event[2][0], ())
    for mark in named:
        if mark[0] >= len(book) or mark[1] >= vector[mark[0]]:
            return None
        word = book[mark[0]][mark[1]][1][0]
        if word in ("back", "day") if event[2][0] == "back" else word != "put":
            return None
    mark = (house, len(book[house]))
    book = book[:house] + [book[house] + [(vector, event[2])]] + book[house + 1:]
    vector = vector[:house] + (vector[house] + 1,) + vector[house + 1:]
    return (book, vectors[:house] + [vector] + vectors[house + 1:], letters), mark


def plain_start(houses):
    return [[] for _ in range(houses)], [(0,) * houses for _ in range(houses)], []


def some_event(choice, state, told_word=told_word):
    """An event that can be done, or one with a mark or a letter that can't."""
    book, vectors, letters = state
    house, kind = choice.randrange(len(book)), choice.random()
    if kind < 0.2:
        return ("write", house)
    if kind < 0.45 and letters:
        return ("read", house, choice.randrange(len(letters)) if kind < 0.42 else len(letters))
    word = told_word(choice, book, vectors[house])
    if choice.random() < 0.08 and word[0] in ("same", "unlike", "change", "back"):
        word = word[:1] + ((house, len(book[house]) + 5),) + word[2:]
        if word[0] in ("same", "unlike") and word[1] > word[2]:
            word = (word[0], word[2], word[1])
    return ("do", house, word)


def some_events(choice, houses, many, told_word=told_word):
    """(events that can be done, state behind them)."""
    state, events = plain_start(houses), []
    while len(events) < many:
        event = some_event(choice, state, told_word)
        done = plain_done(state, event)
        if done is not None:
            state = done[0]
            events.append(event)
    return tuple(events), state


def plain_lot(book, deeds):
    """The lot of what stands of some deeds, marks, these alone."""
    words = {mark: book[mark[0]][mark[1]][1] for mark in deeds}
    back = [word[1] for word in words.values() if word[0] == "back"]
    return tuple((mark, (sum(book[mark[0]][mark[1]][0]), mark[0]), words[mark]) for mark in sorted(words)
                 if words[mark][0] != "back" and mark not in back)


def marks_of(vector):
    return [(house, number) for house, many in enumerate(vector) for number in range(many)]
