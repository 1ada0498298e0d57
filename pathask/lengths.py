"""How long the shortest plain ways of the rules' ties are, and such ways themselves."""

from pathask.errors import NoTie, TooLong
from pathask.reckoning import Reckoning

MOST_STEPS = 1000


def plain_lengths(web, rules):
    return sorted(Reckoning(web, rules).lengths.items())


def plain_way(web, rules, tie):
    if web.has_tie(tie[0], tie[1], tie[2]):
        return (tie[0], (("on", tie[1], tie[2]),))
    reckoning = Reckoning(web, rules)
    if tie not in reckoning.lengths:
        raise NoTie(tie)
    if reckoning.lengths[tie] > MOST_STEPS:
        raise TooLong(reckoning.lengths[tie])
    return reckoning.plain_ways(MOST_STEPS)[tie]
