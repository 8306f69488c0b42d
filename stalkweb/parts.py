"""Parts: views of a web at some of its places, and what they tell of the whole."""

from stalkweb.errors import BadView, Unlike
from stalkweb.gaps import gap_count
from stalkweb.webs import check_web, check_whole, is_place
from stalkweb.whole import check_section, free_count


def check_view(web, places):
    """Refuses what is no rising list of one place of the web and more."""
    rising = all([low < high for low, high in zip(places, places[1:])])
    if not places or not rising or not all([is_place(web[1], place) for place in places]):
        raise BadView("a view is at a rising list of one place of the web and more")


def view_at(web, places):
    """The places of the list, numbered anew, and the ties between them."""
    field, sizes, ties = web
    inner = [
        (places.index(one), places.index(other), room, first, second)
        for one, other, room, first, second in ties if one in places and other in places
    ]
    return (field, tuple([sizes[place] for place in places]), tuple(inner))


def covered(web, one, other):
    """Whether each place is in one of the lists, and each tie has both ends in one of them."""
    field, sizes, ties = web
    if not all([place in one or place in other for place in range(len(sizes))]):
        return False
    return all([
        (tie[0] in one and tie[1] in one) or (tie[0] in other and tie[1] in other) for tie in ties
    ])


def check_cover(web, one, other):
    """Refuses two lists of which one is no view's, or that do not cover the web."""
    check_view(web, one)
    check_view(web, other)
    if not covered(web, one, other):
        raise BadView("a place or a tie of the web is in neither view")


def view(web, places):
    """The web of these places, numbered anew in their order, and of the ties between them."""
    check_web(web)
    check_view(web, places)
    return view_at(web, places)


def seen(web, places, whole):
    """The assignment's columns at these places."""
    check_web(web)
    check_view(web, places)
    check_whole(web, whole)
    return [whole[place] for place in places]


def covers(web, one, other):
    """Whether the two lists of places cover the web."""
    check_web(web)
    check_view(web, one)
    check_view(web, other)
    return covered(web, one, other)


def glued(web, one, other, left, right):
    """The section of the web that the sections of two views which cover it make together."""
    check_web(web)
    check_cover(web, one, other)
    check_whole(view_at(web, one), left)
    check_whole(view_at(web, other), right)
    found = dict(zip(one, left))
    for place, column in zip(other, right):
        if found.get(place, column) != column:
            raise Unlike(place)
    # Only now: halves that are unlike are told so also where one of them is no section.
    check_section(view_at(web, one), left)
    check_section(view_at(web, other), right)
    found.update(dict(zip(other, right)))
    return [found[place] for place in range(len(web[1]))]


def joining(web, one, other):
    """The free counts of the web, of both views together and of the common one, then the gap counts."""
    check_web(web)
    check_cover(web, one, other)
    common = [place for place in one if place in other]
    if not common:
        raise BadView("the two views have no place in common")
    webs = [web] + [view_at(web, places) for places in (one, other, common)]
    found = []
    for counts in ([free_count(part) for part in webs], [gap_count(part) for part in webs]):
        found += [counts[0], counts[1] + counts[2], counts[3]]
    return found
