"""Which answers would change the people, and which unlikes lead to told ones ([50], [51])."""

from whoiswho.deeds import need_sames, words_put
from whoiswho.errors import InvalidIndex, InvalidSize, Refused
from whoiswho.papers import pairs_within
from whoiswho.people import fates_and_groups, is_barred, join_groups, need_bars, need_links, need_names, need_web
from whoiswho.people import pair_among, people_in
from whoiswho.plain import homes_of, neighbours, tied_lots
from whoiswho.rings import need_parts_of


def need_words(names, links, bars, sames, unlikes):
    """(names, links, bars, sames, unlikes), all as tuples."""
    known = need_names(names)
    told, barred = need_links(known, links), need_bars(known, bars)
    return known, told, barred, need_sames(known, sames), need_bars(known, unlikes)


def behind_answer(sames, unlikes, word, pair):
    """(sames, unlikes) when a hand puts in a word of a pair, or takes it back if it stands."""
    if word == "unlike":
        left = tuple([bar for bar in unlikes if bar != pair])
        return sames, left if pair in unlikes else left + (pair,)
    left = tuple([same for same in sames if (same[1], same[2]) != pair])
    return left + ((1, pair[0], pair[1]),) if len(left) == len(sames) else left, unlikes


def people_with(words, sames, unlikes):
    """The persons of a rule's links and bars with what hands say."""
    names, links, bars = words
    ordered, barred = words_put(links, bars, sames, unlikes)
    return people_in(fates_and_groups(names, ordered, barred)[1])


def answered_people(names, links, bars, sames, unlikes, word, one, other):
    """The persons behind an answer: a word of a pair that is put in, or taken back if it stands."""
    known, told, barred, tied, parted = need_words(names, links, bars, sames, unlikes)
    if not isinstance(word, str) or word not in ("same", "unlike"):
        raise InvalidSize("word")
    pair = pair_among(known, one, other)
    if pair is None:
        raise InvalidIndex(-1)
    behind = behind_answer(tied, parted, word, pair)
    return people_with((known, told, barred), behind[0], behind[1])


def turning_answers(names, links, bars, sames, unlikes):
    """For each pair, ascending, (one, other, whether "same" changes the persons, whether "unlike" does)."""
    known, told, barred, tied, parted = need_words(names, links, bars, sames, unlikes)
    people = people_with((known, told, barred), tied, parted)
    rows = []
    for at, one in enumerate(known):
        for other in known[at + 1:]:
            turns = []
            for word in ("same", "unlike"):
                behind = behind_answer(tied, parted, word, (one, other))
                turns.append(people_with((known, told, barred), behind[0], behind[1]) != people)
            rows.append((one, other, turns[0], turns[1]))
    return tuple(rows)


def rows_leading(names, links, bars, homes):
    """The rows of leading_paper, of links in order and parts that are tied and have no bar within."""
    groups = {name: [name] for name in names}
    apart = neighbours(names, bars)
    rows = []
    for link in links:
        _, one, other = link
        if homes[one] == homes[other]:
            if other not in groups[one]:
                join_groups(groups, one, other)
        elif not is_barred(groups[one], groups[other], apart):
            rows.append((link, tuple(sorted(groups[one])), tuple(sorted(groups[other]))))
            # What keeps this link's groups apart keeps those apart that they grow to.
            apart[one].append(other)
            apart[other].append(one)
    return tuple(rows)


def leading_paper(names, links, bars, parts):
    """("barred", bars), ("untied", groups) or ("rows", rows): by which unlikes parts become the persons."""
    known, ordered, barred = need_web(names, links, bars)
    need_parts_of(known, parts)
    homes = homes_of(parts)
    within = tuple(sorted([bar for bar in barred if homes[bar[0]] == homes[bar[1]]]))
    if len(within) > 0:
        return ("barred", within)
    groups = tied_lots(known, pairs_within(ordered, homes))
    if groups != parts:
        return ("untied", groups)
    return ("rows", rows_leading(known, ordered, barred, homes))


def leading_many(names, links, bars, parts):
    """(how many rows, how many lots of so many unlikes lead to the parts)."""
    paper = leading_paper(names, links, bars, parts)
    if paper[0] != "rows":
        raise Refused(-1)
    product = 1
    for _, one, other in paper[1]:
        product *= len(one) * len(other)
    return len(paper[1]), product
