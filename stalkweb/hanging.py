"""How the places of a web hang together by its ties.

The web was looked at already: nothing is refused here.
"""


def hung(web):
    """For each place the first place of its piece; and the ties of the wood."""
    firsts = list(range(len(web[1])))
    found = []
    for tie, (one, other, room, first, second) in enumerate(web[2]):
        low, high = sorted([firsts[one], firsts[other]])
        if low != high:
            found.append(tie)
            firsts = [low if mark == high else mark for mark in firsts]
    return firsts, found


def wood_ties(web):
    """The ties that put two pieces together which the ties ahead left apart."""
    firsts, found = hung(web)
    return found


def ways_from(web, place):
    """By each place of the place's piece the steps that go to it along the wood."""
    found = {place: []}
    wood = wood_ties(web)
    # No way has more ties than the wood, and each round goes one tie further.
    for _ in wood:
        for tie in wood:
            one, other = web[2][tie][:2]
            if one in found and other not in found:
                found[other] = found[one] + [(tie, True)]
            elif other in found and one not in found:
                found[one] = found[other] + [(tie, False)]
    return found


def ring_steps(web, tie):
    """The steps of the tie's ring; none for a tie of the wood."""
    if tie in wood_ties(web):
        return []
    one, other = web[2][tie][:2]
    return [(tie, True)] + ways_from(web, other)[one]
