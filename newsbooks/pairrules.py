"""Pair rules: how several ranks are made into one, pair by pair."""

from math import perm

from newsbooks.checks import check_same_worlds, check_world, is_row, is_within
from newsbooks.errors import BadGroup, BadNumber, BadRule
from newsbooks.listing import all_ranks
from newsbooks.ranks import Rank
from newsbooks.turnwishes import stands_to

SIGNS = (-1, 0, 1)
WAYS = (1, -1)
MOST_MERGED = 3
FEWEST_TORN = 3


def check_many(many):
    """Refuse all but a number of ranks that a pair rule may have."""
    if not is_within(many, 1, MOST_MERGED):
        raise BadNumber("many")


def sign_rows(many):
    """Return the list of all sign rows of so many ranks, ascending."""
    rows = [()]
    for _ in range(many):
        rows = [row + (sign,) for row in rows for sign in SIGNS]
    return rows


def is_sign(value):
    """Return whether this is a sign."""
    return is_within(value, -1, 1)


def is_sign_row(row, many):
    """Return whether this is a sign row of so many ranks."""
    return is_row(row) and len(row) == many and all([is_sign(sign) for sign in row])


def contrary(row):
    """Return the contrary of a sign row."""
    return tuple([-sign for sign in row])


def is_rule_pair(entry, many, taken):
    """Return whether the entry is a pair of a sign row that was not taken and a sign."""
    if not is_row(entry) or len(entry) != 2:
        return False
    row, sign = entry
    return is_sign_row(row, many) and is_sign(sign) and tuple(row) not in taken


def signs_by_row(many, pairs):
    """Return the signs that the pairs give, as a dict of sign rows."""
    if not is_row(pairs):
        raise BadRule(-1)
    found = {}
    for place, entry in enumerate(pairs):
        if not is_rule_pair(entry, many, found):
            raise BadRule(place)
        row, sign = entry
        found[tuple(row)] = sign
    rows = sign_rows(many)
    if len(found) < len(rows) or not all([found[contrary(row)] == -found[row] for row in rows]):
        raise BadRule(len(pairs))
    return found


def places_of(many, places):
    """Return the places of a pair rule as a tuple of pairs of a number and a way."""
    if not is_row(places):
        raise BadRule(-1)
    seen = []
    for at, entry in enumerate(places):
        if not is_row(entry) or len(entry) != 2:
            raise BadRule(at)
        number, way = entry
        if not is_within(number, 0, many - 1) or number in seen or not is_sign(way) or way == 0:
            raise BadRule(at)
        seen.append(number)
    return tuple([tuple(entry) for entry in places])


def first_sign(row, places):
    """Return the sign that the pair rule of the places gives the sign row."""
    signs = [way * row[number] for number, way in places if row[number] != 0]
    return signs[0] if signs else 0


class PairRule:
    """A pair rule: a sign for each sign row, contrary signs for contrary rows."""

    def __init__(self, many, pairs):
        check_many(many)
        self.by_row = signs_by_row(many, pairs)
        self.size = many
        self.pairs = tuple([(row, self.by_row[row]) for row in sign_rows(many)])

    @classmethod
    def of_row(cls, many, places):
        """Return the pair rule of the places."""
        check_many(many)
        told = places_of(many, places)
        return cls(many, [(row, first_sign(row, told)) for row in sign_rows(many)])

    def sign_of(self, row):
        """Return the sign of the sign row."""
        if not is_sign_row(row, self.size):
            raise BadRule(-1)
        return self.by_row[tuple(row)]

    def __eq__(self, other):
        return isinstance(other, PairRule) and self.pairs == other.pairs


def sign_at(rank, one, other):
    """Return the sign of the rank at the two worlds."""
    check_world(one, rank.worlds, "one")
    check_world(other, rank.worlds, "other")
    return stands_to(rank, other, one)


def merged(rule, ranks):
    """Return the rank that the rule merges the ranks into, or None if it does not merge them."""
    if not is_row(ranks) or len(ranks) != rule.size:
        raise BadGroup(-1)
    first = ranks[0]
    for rank in ranks[1:]:
        check_same_worlds(first, rank)
    signs = []
    for one in range(first.worlds):
        rows = [tuple([sign_at(part, one, other) for part in ranks]) for other in range(first.worlds)]
        signs.append([rule.by_row[row] for row in rows])
    # In a rank, a world is the later the more worlds are before it.
    found = Rank.of_levels([row.count(-1) for row in signs])
    right = [sign_at(found, one, other) == sign for one, row in enumerate(signs) for other, sign in enumerate(row)]
    return found if all(right) else None


def always_merges(rule):
    """Return whether the rule merges any ranks."""
    return row_behind(rule) is not None


def is_unanimous(rule):
    """Return whether the rule puts before what some ranks put before and none behind."""
    return all([sign == 1 for row, sign in rule.pairs if 1 in row and -1 not in row])


def decides(pairs, number, way):
    """Return whether, among these sign rows, the sign at this number comes ahead of all others, in this way."""
    told = [(row[number], sign) for row, sign in pairs if row[number] != 0]
    return len(told) > 0 and all([sign == way * mine for mine, sign in told])


def row_behind(rule):
    """Return the places whose rule it is, or None."""
    pairs = rule.pairs
    places = ()
    while any([sign != 0 for _, sign in pairs]):
        able = [(number, way) for number in range(rule.size) for way in WAYS if decides(pairs, number, way)]
        if not able:
            return None
        places = places + (able[0],)
        pairs = [(row, sign) for row, sign in pairs if row[able[0][0]] == 0]
    return places


def bad_ranks(rule):
    """Return ranks of three worlds that the rule does not merge, or None if it always merges."""
    if always_merges(rule):
        return None
    ranks = list(all_ranks(FEWEST_TORN))
    rows = [()]
    for _ in range(rule.size):
        rows = [row + (rank,) for row in rows for rank in ranks]
    for row in rows:
        if merged(rule, row) is None:
            return row
    return None


def rules_counted(many):
    """Return the number of pair rules of so many ranks that always merge."""
    check_many(many)
    return sum([perm(many, count) << count for count in range(many + 1)])
