"""Ways that lead several companies to others, all at once."""

from twobesides.checks import check_named, check_stock
from twobesides.errors import InvalidPairs
from twobesides.forms import is_pair_with_as_many
from twobesides.led import row_of, ways_led

MOST_PAIRS = 6


def joint_way(named, pairs, stock):
    """Return the least way that leads the first company of each pair to the second one, or None."""
    check_pairs(named, pairs)
    check_stock(named, stock)
    ways = ways_led(named, [first for first, _ in pairs], stock)
    return ways.get(row_of(named, [second for _, second in pairs]))


def check_pairs(named, pairs):
    """Refuse what is no number of named ones, or no tuple of one to six pairs of companies with as many people."""
    check_named(named)
    if not isinstance(pairs, tuple) or not 1 <= len(pairs) <= MOST_PAIRS:
        raise InvalidPairs("these are no one to six pairs")
    if not all([is_pair_with_as_many(named, pair) for pair in pairs]):
        raise InvalidPairs("these are no pairs of companies with as many people")
