"""Rules, tuples (word, pattern): a tie of the word stands for each way that fits the pattern."""

from pathask.errors import GoesRound
from pathask.machines import machine_of
from pathask.otherwise import backwards
from pathask.patterns import ANY, LEAVES, words_of_steps
from pathask.reaching import pairs, shortest


def told_ties(web, rules):
    grown = web.like()
    machines = [(word, machine_of(pattern)) for word, pattern in rules]
    told = []
    fresh = lacking_ties(grown, machines)
    while fresh:
        told.extend(fresh)
        for tie, way in fresh:
            grown.lay_tie(tie[0], tie[1], tie[2])
        fresh = lacking_ties(grown, machines)
    return told


def lacking_ties(web, machines):
    found = {}
    for word, machine in machines:
        for one, other in pairs(web, machine):
            if not web.has_tie(one, word, other) and (one, word, other) not in found:
                found[(one, word, other)] = shortest(web, machine, one, other)[1]
    return list(found.items())


def order_of(rules):
    leads = leads_of(rules)
    order = []
    left = list(leads)
    while left:
        free = [word for word in left if not led_within(leads, word, left)]
        if not free:
            raise GoesRound(ring_within(leads, left))
        order.extend(free)
        left = [word for word in left if word not in free]
    return order


# For each rules' word the rules' words to which it leads.
def leads_of(rules):
    leads = {}
    for word, pattern in rules:
        words = words_of_steps(pattern)
        led = [other for other, part in rules if other in words or ANY in words]
        leads[word] = leads.get(word, []) + led
    return leads


def led_within(leads, word, words):
    return [other for other in leads[word] if other in words]


# Each of these words leads to one of them, so going on from any one comes back at last.
def ring_within(leads, words):
    trail = []
    word = words[0]
    while word not in trail:
        trail.append(word)
        word = led_within(leads, word, words)[0]
    return trail[trail.index(word):]


def unfolded(pattern, rules):
    meant = {}
    for word in order_of(rules):
        parts = [part for other, part in rules if other == word]
        meant[("on", word)] = one_of([put_in(part, meant) for part in parts])
        meant[("back", word)] = one_of([put_in(backwards(part), meant) for part in parts])
    return put_in(pattern, meant)


# For each step by a rules' word there is put what it is meant to be, a pattern without such words.
def put_in(pattern, meant):
    if pattern[0] == "step":
        return step_meant(pattern, meant)
    if pattern[0] in LEAVES:
        return pattern
    if pattern[0] == "many":
        return ("many", put_in(pattern[1], meant))
    return (pattern[0], tuple([put_in(part, meant) for part in pattern[1]]))


def step_meant(step, meant):
    if step[2] == ANY:
        return one_of([step] + [meant[kind] for kind in meant if kind[0] == step[1]])
    return meant.get((step[1], step[2]), step)


def one_of(patterns):
    return patterns[0] if len(patterns) == 1 else ("either", tuple(patterns))
