"""All states that the beginning of a garden leads to."""

from bedround.webs import Web


def all_states(garden):
    web = Web(garden)
    web.widen_fully()
    told = {}
    for number, state in enumerate(web.states):
        told[state] = [(planting, web.states[later]) for planting, later in web.moves_of(number)]
    return told
