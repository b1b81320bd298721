"""Worlds of houses for the tests: deeds, letters, and the book that they come to."""


def named_marks(word):
    return [thing for thing in word[1:] if word[0] in ("change", "same", "unlike", "back")
            and isinstance(thing, tuple) and len(thing) == 2 and all(type(part) is int for part in thing)
            and (word[0] != "change" or thing is word[1])]


def some_word(choice, book, seen):
    known = [(house, number) for house, many in enumerate(seen) for number in range(many)]
    puts = [mark for mark in known if book[mark[0]][mark[1]][1][0] == "put"]
    others = [mark for mark in known if book[mark[0]][mark[1]][1][0] not in ("back", "day")]
    kind = choice.choice(["put", "put", "change", "same", "unlike", "rule", "day", "back", "back"])
    if kind == "change" and puts:
        return ("change", choice.choice(puts), (choice.choice("abc"),))
    if kind in ("same", "unlike") and len(puts) > 1:
        return (kind,) + tuple(sorted(choice.sample(puts, 2)))
    if kind == "back" and others:
        return ("back", choice.choice(others))
    if kind in ("rule", "day"):
        return (kind, ((), choice.randint(0, 3)))
    return ("put", (choice.choice("abc"),))


def some_world(choice, houses, deeds):
    """(book, vectors that houses had at some time), all closed."""
    book = [[] for _ in range(houses)]
    vectors = [[0] * houses for _ in range(houses)]
    had = []
    while sum(map(len, book)) < deeds:
        house = choice.randrange(houses)
        if choice.random() < 0.5:
            other = choice.choice(had)[1] if had and choice.random() < 0.3 else tuple(choice.choice(vectors))
            vectors[house] = [max(pair) for pair in zip(vectors[house], other)]
        else:
            seen = tuple(vectors[house])
            book[house].append((seen, some_word(choice, book, seen)))
            vectors[house][house] += 1
        had.append((house, tuple(vectors[house])))
    return tuple(map(tuple, book)), [vector for _, vector in had] + [(0,) * houses, tuple(map(len, book))]


def joined(one, other):
    """Of each house the longer row."""
    return tuple(max(pair, key=len) for pair in zip(one, other))
