"""The links of records by a rule, from nothing and kept along as records come and go ([23])."""

from whoiswho.errors import InvalidRecord, NoRecord, Refused
from whoiswho.index import Index, need_values, searched
from whoiswho.plain import is_name, is_row_of, is_sequence, pair_of
from whoiswho.records import need_name
from whoiswho.rules import comparers_of, distances_of, need_rule, sum_of, takes_all, verdicts_at, word_of


def word_and_sum(rule, one, other):
    """(word, sum) of two records' fields, which are known to be right."""
    row = verdicts_at(rule, distances_of(rule, one, other))
    return word_of(rule, row), sum_of(rule, row)


def need_records(rule, records):
    """(name, fields) of records by rising names, in tuples; the rule is right."""
    if not is_sequence(records):
        raise InvalidRecord(-1)
    comparers = comparers_of(rule)
    told = []
    for at, record in enumerate(records):
        if not is_row_of(record, 2) or not is_name(record[0]) or not takes_all(comparers, record[1]):
            raise InvalidRecord(at)
        name = tuple(record[0])
        if at > 0 and not told[at - 1][0] < name:
            raise InvalidRecord(at)
        told.append((name, need_values(rule, record[1])))
    return told


def links_and_bars(rule, records, known):
    """(links, bars) of records by a rule, by names; known keeps what it says of fields, by these."""
    links, bars = [], []
    for at, (other, others) in enumerate(records):
        for one, ones in records[:at]:
            key = (ones, others)
            if key not in known:
                known[key] = word_and_sum(rule, ones, others)
            word, weight = known[key]
            if word == "link":
                links.append((weight, one, other))
            elif word == "barred":
                bars.append((one, other))
    return by_names(links), tuple(sorted(bars))


def by_names(links):
    return tuple(sorted(links, key=lambda link: (link[1], link[2])))


def plain_links(rule, records):
    """By names, (weight, name, name) of each two records that a rule links."""
    need_rule(rule)
    return links_and_bars(rule, need_records(rule, records), {})[0]


def rule_bars(rule, records):
    """Ascending, (name, name) of each two records that a rule bars."""
    need_rule(rule)
    return links_and_bars(rule, need_records(rule, records), {})[1]


class Links:
    """The links of records by a rule, of which each is compared with the likely ones alone."""

    def __init__(self, rule, fields):
        self._index = Index(rule, fields)
        if searched(rule, fields, ())[0] == "missed":
            raise Refused(-1)
        self._rule = rule
        self._records = {}
        self._weights = {}
        self.looked = 0

    def put_record(self, name, values):
        """A record that comes; tells the links that come."""
        self._index.put_record(name, values)
        return self.kept_links(need_name(name), need_values(self._rule, values))

    def take_record(self, name):
        """A record that goes; tells the links that go."""
        self._index.take_record(name)
        return self.lost_links(need_name(name))

    def change_record(self, name, values):
        """A record whose values change; tells (links that go, links that come)."""
        known, told = need_name(name), need_values(self._rule, values)
        if known not in self._records:
            raise NoRecord(name)
        self._index.take_record(known)
        gone = self.lost_links(known)
        self._index.put_record(known, told)
        come = self.kept_links(known, told)
        return tuple([link for link in gone if link not in come]), tuple([link for link in come if link not in gone])

    def all_links(self):
        """All links, by names."""
        return by_names([(self._weights[pair], pair[0], pair[1]) for pair in self._weights])

    def all_records(self):
        """(name, fields) of all records, by names."""
        return tuple([(name, self._records[name]) for name in sorted(self._records)])

    def kept_links(self, name, values):
        """Keeps a record that the index has, and its links; tells these."""
        likely = [other for other in self._index.likely_names(values) if other != name]
        self._records[name] = values
        self.looked = len(likely)
        links = []
        for other in likely:
            word, weight = word_and_sum(self._rule, values, self._records[other])
            if word == "link":
                one, second = pair_of(name, other)
                self._weights[(one, second)] = weight
                links.append((weight, one, second))
        return by_names(links)

    def lost_links(self, name):
        """Forgets a record, and its links; tells these."""
        links = [(self._weights[pair], pair[0], pair[1]) for pair in self._weights if name in pair]
        for _, one, other in links:
            del self._weights[(one, other)]
        del self._records[name]
        return by_names(links)
