"""Pieces of a web, its wood, and the rings and ways along it."""

from stalkweb.hanging import hung, ring_steps, ways_from, wood_ties
from stalkweb.webs import check_place, check_tie, check_web


def pieces(web):
    """The places that hang together, in rising lists, by their first ones."""
    check_web(web)
    firsts, ties = hung(web)
    return [
        [place for place, mark in enumerate(firsts) if mark == first]
        for first in range(len(firsts)) if firsts[first] == first
    ]


def wood(web):
    """The ties that put two pieces together which the ties ahead left apart."""
    check_web(web)
    return wood_ties(web)


def ring(web, tie):
    """The steps of the tie's ring: along the tie, then back along the wood; none for a tie of the wood."""
    check_web(web)
    check_tie(web, tie)
    return ring_steps(web, tie)


def way(web, place, other):
    """The steps along the wood from the place to the other one, or None where they don't hang together."""
    check_web(web)
    check_place(web, place)
    check_place(web, other)
    return ways_from(web, place).get(other)
