"""Gaps: what bars asks of the ties."""

from stalkweb.elimination import null_columns, solution, stepped, turned, weights_against
from stalkweb.errors import BadAsk
from stalkweb.layout import cut, great, strung, tie_rooms
from stalkweb.webs import are_columns, check_web


def check_asks(web, asks):
    """Refuses what are no asks of the web's ties."""
    if not are_columns(web[0], tie_rooms(web), asks):
        raise BadAsk("asks have a column of numbers for each tie, of its room")


def gap_count(web):
    """How many lists of weights the base of gaps has."""
    rows = great(web)
    return len(rows) - len(stepped(web[0], rows, sum(web[1])))


def bars(web):
    """The base of gaps: weights of the ties with which the great rows make nought."""
    check_web(web)
    rows = great(web)
    return [cut(column, tie_rooms(web)) for column in null_columns(web[0], turned(rows, sum(web[1])), len(rows))]


def gap(web):
    """The gap count: how many lists of weights the base of gaps has."""
    check_web(web)
    return gap_count(web)


def meets(web, asks):
    """The assignment whose differences these are, nought at each place without a lead, or None."""
    check_web(web)
    check_asks(web, asks)
    column = solution(web[0], great(web), sum(web[1]), strung(asks))
    return None if column is None else cut(column, web[1])


def stands_against(web, asks):
    """Weights of the ties that bar the asks, or None."""
    check_web(web)
    check_asks(web, asks)
    weights = weights_against(web[0], great(web), sum(web[1]), strung(asks))
    return None if weights is None else cut(weights, tie_rooms(web))
