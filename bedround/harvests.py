"""Harvests: that of a plan, the greatest of so many years, and the greatest a year of a round."""

from bedround.climbs import Climb
from bedround.plans import plan_for
from bedround.webs import Web


def harvest_of(garden, plan):
    state = garden.start()
    total = 0
    for planting in plan:
        state = garden.behind(state, planting)
        total = total + garden.harvest(planting)
    return total


def row_of(web, number):
    return [(web.garden.harvest(planting), later) for planting, later in web.moves_of(number)]


def counts_of_years(web, many):
    # The states that a year may begin with are among those with numbers below its count.
    counts = []
    done = 0
    for year in range(many):
        done = web.widen(done)
        counts.append(done)
    return counts


def choice_of(row, worths):
    # A worth is None where the years left can't be filled. Of choices as good the first stays.
    choice = (None, None)
    for place, move in enumerate(row):
        worth = worths[move[1]]
        if worth is not None and (choice[0] is None or move[0] + worth > choice[0]):
            choice = (move[0] + worth, place)
    return choice


def plan_by(web, picks):
    plan = []
    number = 0
    for places in picks:
        move = web.moves_of(number)[places[number]]
        plan.append(move[0])
        number = move[1]
    return plan


def best(garden, many):
    # Where plans end this is known soon, however many years are asked for.
    if plan_for(garden, many) is None:
        return None
    web = Web(garden)
    counts = counts_of_years(web, many)
    rows = [row_of(web, number) for number in range(len(web.moves))]
    worths = [0] * len(web.states)
    picks = []
    for count in reversed(counts):
        choices = [choice_of(row, worths) for row in rows[:count]]
        worths = [choice[0] for choice in choices]
        picks.append([choice[1] for choice in choices])
    return (worths[0], plan_by(web, list(reversed(picks))))


def lowest_terms(top, under):
    divisor = under
    rest = top
    while rest != 0:
        lesser = divisor % rest
        divisor = rest
        rest = lesser
    return (top // divisor, under // divisor)


def rate_of(rows, ring):
    return lowest_terms(sum([rows[number][place][0] for number, place in ring]), len(ring))


def best_ring(rows):
    # Any round has a greater harvest a year than the first rate, since no harvest is below nought.
    rate = (-1, 1)
    ring = None
    climb = Climb(rows, rate)
    better = climb.better_round()
    while better is not None:
        ring = better
        rate = rate_of(rows, ring)
        climb = Climb(rows, rate)
        better = climb.better_round()
    return (ring, rate, climb.heights)


def best_round(garden):
    web = Web(garden)
    web.widen_fully()
    rows = [row_of(web, number) for number in range(len(web.states))]
    found = best_ring(rows)
    ring = found[0]
    if ring is None:
        return None
    years = [web.moves_of(number)[place][0] for number, place in ring]
    heights = dict(zip(web.states, found[2]))
    return (found[1], web.way_to(ring[0][0]), years, heights)
