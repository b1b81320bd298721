"""Lots of words: records, a rule and hands' words, and the people that they tell ([34], [35])."""

from whoiswho.comparing import takes
from whoiswho.errors import InvalidLot, InvalidRule
from whoiswho.links import links_and_bars
from whoiswho.people import fates_and_groups, in_order, links_above, need_bars, need_links, need_names, people_in
from whoiswho.plain import has_list, homes_of, is_name, is_name_tuple, is_sequence, is_tuple_of
from whoiswho.rules import comparers_of, need_rule, takes_all

# No rule's sum is above it.
TOP = 1000000000000000


def is_rule(value):
    """Whether any value is a rule."""
    try:
        need_rule(value)
    except InvalidRule:
        return False
    return True


def are_fields(value):
    """Whether any value is fields of a record, one or more, tuples alone."""
    if not isinstance(value, tuple) or len(value) == 0 or has_list(value):
        return False
    return all([takes("exact", thing) for thing in value])


def is_lot_word(value):
    """Whether any value is a word that can stand."""
    if not isinstance(value, tuple) or not 2 <= len(value) <= 3 or not isinstance(value[0], str):
        return False
    if len(value) == 3:
        if value[0] == "change":
            return is_name_tuple(value[1]) and are_fields(value[2])
        if value[0] not in ("same", "unlike") or not is_name_tuple(value[1]) or not is_name_tuple(value[2]):
            return False
        return value[1] < value[2]
    if value[0] == "put":
        return are_fields(value[1])
    if value[0] == "rule":
        return is_rule(value[1])
    return value[0] == "day" and isinstance(value[1], tuple) and not has_list(value[1])


def is_lot_row(value):
    """Whether any value is (mark, rank, word), tuples alone."""
    if not is_tuple_of(value, 3) or not is_name_tuple(value[0]) or not is_name_tuple(value[1]):
        return False
    return value[1][1] == value[0][0] and is_lot_word(value[2])


def are_rules_fit(lot):
    """Whether each rule of a lot takes all fields."""
    fields = [word[-1] for _, _, word in lot if word[0] in ("put", "change")]
    rules = [comparers_of(word[1]) for _, _, word in lot if word[0] == "rule"]
    return all([takes_all(comparers, values) for comparers in rules for values in fields])


def need_lot(value):
    """Any value, if it is a lot of words."""
    if not isinstance(value, tuple):
        raise InvalidLot(-1)
    ranks = {}
    for at, row in enumerate(value):
        if not is_lot_row(row) or row[1] in ranks or (at > 0 and not value[at - 1][0] < row[0]):
            raise InvalidLot(at)
        ranks[row[1]] = True
    if not are_rules_fit(value):
        raise InvalidLot(-1)
    return value


def tellers_of(lot):
    """For each record its rows of fields, by rising rank: that of its put and its changes."""
    tellers = {mark: [(rank, mark, word[1])] for mark, rank, word in lot if word[0] == "put"}
    for mark, rank, word in lot:
        if word[0] == "change" and word[1] in tellers:
            tellers[word[1]].append((rank, mark, word[2]))
    return {name: sorted(tellers[name], key=lambda row: row[0]) for name in tellers}


def records_of(lot):
    """As lot_records, of a lot that is known to be right."""
    tellers = tellers_of(lot)
    return tuple([(name, tellers[name][-1][2]) for name in sorted(tellers)])


def lot_records(lot):
    """Ascending, (name, fields) of the records: of each put, by its mark."""
    return records_of(need_lot(lot))


def rules_of(lot):
    """(rank, mark, rule) of all rules, by rising rank."""
    return sorted([(rank, mark, word[1]) for mark, rank, word in lot if word[0] == "rule"], key=lambda row: row[0])


def rule_of(lot):
    """As lot_rule, of a lot that is known to be right."""
    rules = rules_of(lot)
    return rules[-1][2] if len(rules) > 0 else None


def lot_rule(lot):
    """The rule of the greatest rank, or None."""
    return rule_of(need_lot(lot))


def beside_marks(lot):
    """Ascending, the marks of the rules and the changes of records that tell nothing, others having a greater rank."""
    tellers = tellers_of(need_lot(lot))
    beside = [mark for _, mark, _ in rules_of(lot)[:-1]]
    for name in tellers:
        beside.extend([mark for _, mark, _ in tellers[name][:-1] if mark != name])
    return tuple(sorted(beside))


def record_names(word):
    """The records that a word names."""
    return {"change": word[1:2], "same": word[1:], "unlike": word[1:]}.get(word[0], ())


def idle_marks(lot):
    """Ascending, the marks of changes, sames and unlikes that name a record that isn't there."""
    need_lot(lot)
    names = {mark: True for mark, _, word in lot if word[0] == "put"}
    return tuple([mark for mark, _, word in lot if any([name not in names for name in record_names(word)])])


def hands_of(lot, names):
    """(sames, unlikes) of a right lot, of these records alone."""
    said = {"same": {}, "unlike": {}}
    for _, _, word in lot:
        if word[0] in said and word[1] in names and word[2] in names:
            pair = (word[1], word[2])
            said[word[0]][pair] = said[word[0]].get(pair, 0) + 1
    sames = said["same"]
    return in_order([(sames[pair], pair[0], pair[1]) for pair in sames]), tuple(sorted(said["unlike"]))


def hand_words(lot):
    """(names, sames, unlikes): what hands say of the records, how often they say the same."""
    names = tuple([name for name, _ in records_of(need_lot(lot))])
    sames, unlikes = hands_of(lot, {name: True for name in names})
    return names, sames, unlikes


def need_sames(names, sames):
    """The sames in order; the names are right."""
    return in_order(links_above(names, sames, 0))


def need_hands(names, sames, unlikes):
    """(names, sames in order, unlikes ascending), all as tuples."""
    known = need_names(names)
    told = need_sames(known, sames)
    return known, told, tuple(sorted(need_bars(known, unlikes)))


def words_put(links, bars, sames, unlikes):
    """As put_words, of links, bars, sames and unlikes that are known to be right."""
    tied = {(one, other): True for _, one, other in sames}
    parted = {pair: True for pair in unlikes}
    kept = [link for link in links if (link[1], link[2]) not in tied and (link[1], link[2]) not in parted]
    kept.extend([(TOP, one, other) for one, other in tied])
    left = [bar for bar in bars if bar not in tied and bar not in parted]
    return in_order(kept), tuple(sorted(left + list(unlikes)))


def put_words(names, links, bars, sames, unlikes):
    """(links in order, bars ascending) of a rule's with what hands say."""
    known = need_names(names)
    told, barred = need_links(known, links), need_bars(known, bars)
    return words_put(told, barred, need_sames(known, sames), need_bars(known, unlikes))


def web_told(lot, known):
    """As lot_web, of a right lot; known keeps for each rule what it says of fields."""
    records, rule = records_of(lot), rule_of(lot)
    links, bars = (), ()
    if rule is not None:
        links, bars = links_and_bars(rule, records, known.setdefault(rule, {}))
    names = tuple([name for name, _ in records])
    sames, unlikes = hands_of(lot, {name: True for name in names})
    ordered, barred = words_put(links, bars, sames, unlikes)
    return names, ordered, barred


def lot_web(lot):
    """(names, links, bars) of the lot's rule and records, with its words."""
    return web_told(need_lot(lot), {})


def people_told(lot, known):
    """As told_people, of a right lot; known keeps for each rule what it says of fields."""
    names, links, bars = web_told(lot, known)
    return people_in(fates_and_groups(names, links, bars)[1])


def told_people(lot):
    """The persons of the lot's web."""
    return people_told(need_lot(lot), {})


def refused_sames(lot):
    """Ascending, the marks of the sames whose records are two persons."""
    homes = homes_of(told_people(lot))
    sames = [(mark, word) for mark, _, word in lot if word[0] == "same" and word[1] in homes and word[2] in homes]
    return tuple([mark for mark, word in sames if homes[word[1]] != homes[word[2]]])


def struck_lot(lot, marks):
    """The lot without the rows of these marks."""
    need_lot(lot)
    struck = {tuple(mark): True for mark in marks if is_name(mark)} if is_sequence(marks) else {}
    return tuple([row for row in lot if row[0] not in struck])
