"""Walks over places of any kind.

Moves are a dict from each place to the dict from the places that a step may lead
to, to the shares, above 0, with which it does.
"""

from bothwalks.equations import only_values
from bothwalks.shares import Share, total
from bothwalks.tables import common_bottom


def moved(moves, now):
    """The numbers of the places behind a step, where now has them ahead of it."""
    later = {}
    for place, number in now.items():
        for to, share in moves[place].items():
            later[to] = later.get(to, 0) + number * share
    return later


def whole_numbers(shares, scale):
    """A dict of Shares, each times a multiple of their bottoms, as integers."""
    return {place: share.top * (scale // share.bottom) for place, share in shares.items()}


def behind(moves, begin, steps):
    """The shares of the places behind so many steps; begin has them ahead of these.

    All is done in integers over one bottom: a divisor is sought once, in the end.
    """
    amounts = [share for onward in moves.values() for share in onward.values()]
    scale = common_bottom(amounts)
    whole = {place: whole_numbers(onward, scale) for place, onward in moves.items()}
    bottom = common_bottom(list(begin.values()))
    now = whole_numbers(begin, bottom)
    for _ in range(steps):
        now = moved(whole, now)
        bottom = bottom * scale
    return {place: Share(now[place], bottom) for place in sorted(now)}


def places_ahead(moves, start, goals):
    """The places to which a walk may come while it is at no goal, the start first."""
    found = {start: True}
    waiting = [start]
    while waiting:
        place = waiting.pop()
        for to in moves[place]:
            if to not in found and to not in goals:
                found[to] = True
                waiting.append(to)
    return list(found)


def able_places(moves, places, goals):
    """Those of the places from which a walk over them may come to a goal."""
    able = {}
    grown = True
    while grown:
        grown = False
        for place in places:
            if place not in able and any([to in goals or to in able for to in moves[place]]):
                able[place] = True
                grown = True
    return [place for place in places if place in able]


def place_values(moves, places, gains):
    """The dict from the places to their values: each one's gain and what comes next is worth.

    Only what comes next among the places is worth something, and all of them can be left.
    """
    if not places:
        return {}
    rows = tuple([place_row(moves[place], place, places) for place in places])
    return dict(zip(places, only_values(rows, tuple(gains))))


def place_row(onward, place, places):
    """The equation of the value of one place, as a tuple with an item for each place."""
    return tuple([(1 if to == place else 0) - onward.get(to, 0) for to in places])


def hit_share(moves, start, goals):
    """The share with which a walk from the start ever comes to a goal."""
    at_goals = {place: True for place in goals}
    if start in at_goals:
        return Share(1)
    return hit_values(moves, places_ahead(moves, start, at_goals), at_goals).get(start, Share(0))


def hit_shares(moves, goals):
    """The shares with which walks from the places, none a goal, ever come to one.

    A walk that is at no such place and no goal is lost.
    """
    at_goals = {place: True for place in goals}
    found = hit_values(moves, list(moves), at_goals)
    return {place: found.get(place, Share(0)) for place in moves}


def hit_values(moves, places, goals):
    """The shares with which walks over the places come to a goal, of the places from which they may."""
    able = able_places(moves, places, goals)
    gains = [total([share for to, share in moves[place].items() if to in goals]) for place in able]
    return place_values(moves, able, gains)


def hit_mean(moves, start, goals):
    """The mean number of steps till a walk from the start is at a goal; None if this is not sure."""
    at_goals = {place: True for place in goals}
    if start in at_goals:
        return Share(0)
    places = places_ahead(moves, start, at_goals)
    if len(able_places(moves, places, at_goals)) < len(places):
        return None
    return place_values(moves, places, [1] * len(places))[start]
