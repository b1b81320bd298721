"""The persons of the plain rule, kept along as names, links and bars come and go ([30] to [33])."""

from whoiswho.errors import InvalidBars, InvalidLinks, InvalidPeople, InvalidSize, Refused
from whoiswho.people import fates_and_groups, first_join, in_order, is_barred, join_groups, need_web, next_fate
from whoiswho.people import pair_among, people_in, piece_of
from whoiswho.plain import is_name, is_whole, neighbours, tied_lots

FEWEST_NAMES = 2
MOST_NAMES = 60


def fates_anew(names, links, elder, turn, gone, bars):
    """By pairs, the fates that are reckoned anew from the turn on.

    Links are those ahead of the change and those behind it, in order; elder are the fates ahead of it, by pairs;
    gone is the pair whose link is taken out, or None.
    """
    piece = piece_of(names, links, turn[1])
    along = [link for link in links if link[1] in piece]
    place = along.index(turn)
    before = {name: [name] for name in piece}
    for _, one, other in along[:place]:
        if elder[(one, other)] == "join":
            join_groups(before, one, other)
    behind = {name: before[name] for name in before}
    beside = neighbours(names, bars)
    anew = {}
    for link in along[place:]:
        pair = (link[1], link[2])
        if elder.get(pair, "") == "join":
            join_groups(before, link[1], link[2])
        if pair != gone:
            anew[pair] = next_fate(behind, beside, link)
        # Behind like groups like links go on alike.
        if people_in(before) == people_in(behind):
            break
    return anew


def first_refused(names, links, fates, bars):
    """The first refused link that none of these bars refuses, or None."""
    groups = {name: [name] for name in names}
    beside = neighbours(names, bars)
    for link in links:
        fate = fates[(link[1], link[2])]
        if fate == "join":
            join_groups(groups, link[1], link[2])
        elif fate == "no" and not is_barred(groups[link[1]], groups[link[2]], beside):
            return link
    return None


class Keeping:
    """Names, links and bars that come and go, and the fates and persons that they tell."""

    def __init__(self, names, links, bars):
        known, ordered, told = need_web(names, links, bars)
        fates, _ = fates_and_groups(known, ordered, told)
        self._names = known
        self._links = ordered
        self._bars = tuple(sorted(told))
        self._fates = {(link[1], link[2]): fates[at] for at, link in enumerate(ordered)}

    def told_names(self):
        return self._names

    def told_links(self):
        """The links, in order."""
        return self._links

    def told_bars(self):
        """The bars, ascending."""
        return self._bars

    def told_fates(self):
        """The fate of each link, in order."""
        return tuple([self._fates[(one, other)] for _, one, other in self._links])

    def told_people(self):
        """The persons: what joins tie together."""
        return tied_lots(self._names, [(one, other) for _, one, other in self.joins()])

    def joins(self):
        """The links that are joins, in order."""
        return [link for link in self._links if self._fates[(link[1], link[2])] == "join"]

    def put_name(self, name):
        """A name that comes, without links and bars."""
        if not is_name(name):
            raise InvalidPeople(-1)
        if tuple(name) in self._names:
            raise Refused(-1)
        self._names = tuple(sorted(self._names + (tuple(name),)))

    def take_name(self, name):
        """A name that goes; no link and no bar may have it."""
        if not is_name(name) or tuple(name) not in self._names:
            raise InvalidPeople(-1)
        pairs = [(one, other) for _, one, other in self._links] + list(self._bars)
        if any([tuple(name) in pair for pair in pairs]):
            raise Refused(-1)
        self._names = tuple([known for known in self._names if known != tuple(name)])

    def put_link(self, weight, one, other):
        """A link that comes; tells how many fates were reckoned anew."""
        pair = pair_among(self._names, one, other)
        if not is_whole(weight) or pair is None:
            raise InvalidLinks(-1)
        if pair in self._fates:
            raise Refused(-1)
        turn = (weight, pair[0], pair[1])
        links = in_order(self._links + (turn,))
        anew = fates_anew(self._names, links, self._fates, turn, None, self._bars)
        self._links = links
        return self.keep_fates(anew)

    def take_link(self, one, other):
        """A link that goes; tells how many fates were reckoned anew."""
        pair = pair_among(self._names, one, other)
        if pair is None or pair not in self._fates:
            raise InvalidLinks(-1)
        turn = [link for link in self._links if (link[1], link[2]) == pair][0]
        anew = {}
        if self._fates[pair] == "join":
            anew = fates_anew(self._names, self._links, self._fates, turn, pair, self._bars)
        self._links = tuple([link for link in self._links if link != turn])
        del self._fates[pair]
        return self.keep_fates(anew)

    def put_bar(self, one, other):
        """A bar that comes; tells how many fates were reckoned anew."""
        pair = pair_among(self._names, one, other)
        if pair is None:
            raise InvalidBars(-1)
        if pair in self._bars:
            raise Refused(-1)
        self._bars = tuple(sorted(self._bars + (pair,)))
        return self.reckon_from(first_join(self._names, self.joins(), pair[0], pair[1]))

    def take_bar(self, one, other):
        """A bar that goes; tells how many fates were reckoned anew."""
        pair = pair_among(self._names, one, other)
        if pair is None or pair not in self._bars:
            raise InvalidBars(-1)
        self._bars = tuple([bar for bar in self._bars if bar != pair])
        return self.reckon_from(first_refused(self._names, self._links, self._fates, self._bars))

    def reckon_from(self, turn):
        """Reckons fates anew from one of the links on, from none for None; tells how many."""
        if turn is None:
            return 0
        return self.keep_fates(fates_anew(self._names, self._links, self._fates, turn, None, self._bars))

    def keep_fates(self, anew):
        """Keeps fates that were reckoned anew; tells how many."""
        for pair in anew:
            self._fates[pair] = anew[pair]
        return len(anew)


def turning_links(many):
    """(names, links, bars) of which all fates turn when the first link is taken out."""
    if not is_whole(many) or not FEWEST_NAMES <= many <= MOST_NAMES:
        raise InvalidSize("many")
    names = tuple([(0, number) for number in range(many)])
    links = tuple([(many - at, names[at - 1], names[at]) for at in range(1, many)])
    return names, links, tuple([(names[at - 2], names[at]) for at in range(2, many)])
