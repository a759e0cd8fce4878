"""Rates: the best one in the long run, and prices that prove that no other is better.

A rate is a pair, teams and times. Here ways is a list with the ways to go on for each mask of the row: pairs of
how many teams begin (1 or 0) and the new mask's place.
"""

from teamsatonce.timetables import most_begun


def is_less(rate, other):
    return rate[0] * other[1] < other[0] * rate[1]


def in_lowest_terms(rate):
    divisor = rate[0]
    rest = rate[1]
    while rest > 0:
        remainder = divisor % rest
        divisor = rest
        rest = remainder
    return (rate[0] // divisor, rate[1] // divisor)


def least_rate_from(most, place):
    """The least rate at which beginnings are still added behind some number of times, up to the last row of most."""
    last = len(most) - 1
    least = (most[last][place] - most[0][place], last)
    for times in range(1, last):
        rate = (most[last][place] - most[times][place], last - times)
        if is_less(rate, least):
            least = rate
    return least


def best_rate(ways):
    """The best rate of all ways that come back to where they began.

    There may be far too many of these to go through. Karp's theorem finds the best from ways with as many times as
    there are masks: it is the greatest of all masks' least rates.
    """
    most = most_begun(ways, len(ways))
    best = (0, 1)
    for place in range(len(ways)):
        rate = least_rate_from(most, place)
        if is_less(best, rate):
            best = rate
    return in_lowest_terms(best)


def worth(rate, way, prices):
    """What a way comes to: what it gains over the rate, and the new mask's price."""
    return rate[1] * way[0] - rate[0] + prices[way[1]]


def next_price(rate, mask_ways, prices):
    return max([0] + [worth(rate, way, prices) for way in mask_ways])


def told_prices(ways):
    rate = best_rate(ways)
    prices = [0 for mask_ways in ways]
    for done in range(len(ways)):
        prices = [next_price(rate, mask_ways, prices) for mask_ways in ways]
    return prices


def prices_prove(rate, prices, ways):
    """Whether there are as many prices as masks and they prove the rate; with 0 times there is no rate to prove."""
    if rate[1] == 0 or len(prices) != len(ways):
        return False
    for place, mask_ways in enumerate(ways):
        for way in mask_ways:
            if worth(rate, way, prices) > prices[place]:
                return False
    return True
