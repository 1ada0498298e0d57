"""What the document tells, written as plainly as it tells it, and inputs by chance: to hold the program against."""

from pathask.errors import PathError
from pathask.webs import Web

STAY = ("stay",)
ANY_ON = ("step", "on", "*")


def on(word):
    return ("step", "on", word)


def back(word):
    return ("step", "back", word)


def then(*patterns):
    return ("then", patterns)


def either(*patterns):
    return ("either", patterns)


def many(pattern):
    return ("many", pattern)


def web_with(knots, ties):
    web = Web()
    for name, marks in knots.items():
        web.put_knot(name, list(marks))
    for one, word, other in ties:
        web.put_tie(one, word, other)
    return web


def refused(ask, *arguments):
    """The refusal that comes of it, as a tuple of its class and its fields; None where none comes."""
    try:
        ask(*arguments)
    except PathError as refusal:
        return (type(refusal),) + tuple(vars(refusal).values())
    return None


def steps_of(rows, knot):
    ties = rows[1]
    return ([("on", word, other) for one, word, other in ties if one == knot]
            + [("back", word, one) for one, word, other in ties if other == knot])


def end_plainly(way):
    return ([way[0]] + [step[2] for step in way[1]])[-1]


def ways_from(web, knot, longest):
    rows = web.rows()
    told = layer = [(knot, ())]
    for length in range(longest):
        layer = [(way[0], way[1] + (step,)) for way in layer for step in steps_of(rows, end_plainly(way))]
        told = told + layer
    return told


def all_ways(web, longest):
    return [way for knot in web.knots() for way in ways_from(web, knot, longest)]


def fits_plainly(web, pattern, way):
    marks = dict(web.rows()[0])
    knots = [way[0]] + [step[2] for step in way[1]]
    known = {}

    def asked(part, first, last):
        key = (part, first, last)
        if key not in known:
            known[key] = told(part, first, last)
        return known[key]

    def told(part, first, last):
        if part == STAY:
            return first == last
        if part[0] == "step":
            if last != first + 1:
                return False
            side, word, knot = way[1][first]
            return part[1] == side and part[2] in ("*", word)
        if part[0] == "at":
            return first == last and part[1] in marks[knots[first]]
        if part[0] == "off":
            return first == last and part[1] not in marks[knots[first]]
        if part[0] == "either":
            return any([asked(one, first, last) for one in part[1]])
        if part[0] == "then":
            if not part[1]:
                return first == last
            rest = ("then", part[1][1:])
            return any(asked(part[1][0], first, cut) and asked(rest, cut, last) for cut in range(first, last + 1))
        # Ways without steps among the cut ones may be left out, so each one cut off is taken with a step at least.
        return first == last or any(
            asked(part[1], first, cut) and asked(part, cut, last) for cut in range(first + 1, last + 1))

    return asked(pattern, 0, len(way[1]))


def ways_between(web, pattern, one, other, length):
    """The ways of that length that fit, in their order, gone one by one."""
    ways = [way for way in ways_from(web, one, length) if len(way[1]) == length and end_plainly(way) == other]
    return sorted([way for way in ways if fits_plainly(web, pattern, way)], key=lambda way: way[1])


def some_leaf(chance, words, marks):
    sort = chance.choice(["stay", "step", "step", "step", "step", "at", "off"])
    if sort == "step":
        return ("step", chance.choice(["on", "back"]), chance.choice(words + ["*"]))
    return STAY if sort == "stay" else (sort, chance.choice(marks))


def some_pattern(chance, parts, depth=10, words=("u", "v"), marks=("m", "n")):
    """One of just so many parts, or fewer where the depth doesn't let them be; at most depth within one another."""
    if parts <= 1 or depth == 1:
        empty = chance.random() < 0.15
        return (chance.choice(["then", "either"]), ()) if empty else some_leaf(chance, list(words), list(marks))
    sort = chance.choice(["then", "then", "either", "either", "many"])
    if sort == "many":
        return (sort, some_pattern(chance, parts - 1, depth - 1, words, marks))
    left, within = parts - 1, []
    while left:
        share = chance.randint(1, left)
        within.append(some_pattern(chance, share, depth - 1, words, marks))
        left -= share
    chance.shuffle(within)
    return (sort, tuple(within))


def some_web(chance, knots, ties, words=("u", "v"), marks=("m", "n")):
    names = list("abcdefgh")[:knots]
    web = web_with({name: [mark for mark in marks if chance.random() < 0.5] for name in names}, [])
    for number in range(ties):
        tie = (chance.choice(names), chance.choice(words), chance.choice(names))
        if not web.has_tie(*tie):
            web.put_tie(*tie)
    return web


def some_questions(chance, number):
    """Tuples (web, pattern, one, other, length): all pairs of knots and lengths from 0 to 3 of so many webs."""
    for each in range(number):
        web = some_web(chance, chance.randint(1, 3), chance.randint(1, 4))
        pattern = some_pattern(chance, chance.randint(1, 10))
        pattern = many(pattern) if each % 2 else pattern
        for one in web.knots():
            for other in web.knots():
                for length in range(4):
                    yield web, pattern, one, other, length


def web_of_size(chance, names, ties):
    """A web with these knots and just so many ties, of the words u and v."""
    web = web_with({name: [mark for mark in "mn" if chance.random() < 0.5] for name in names}, [])
    while len(web.rows()[1]) < ties:
        tie = (chance.choice(names), chance.choice("uv"), chance.choice(names))
        if not web.has_tie(*tie):
            web.put_tie(*tie)
    return web


def eight_knots(chance):
    return web_of_size(chance, "abcdefgh", 40)


def twelve_knots(chance):
    return web_of_size(chance, "abcdefghijkl", 40)


def some_way(chance, web, length):
    knot = chance.choice(web.knots())
    way = (knot, ())
    while len(way[1]) < length and web.steps(end_plainly(way)):
        way = (knot, way[1] + (chance.choice(web.steps(end_plainly(way))),))
    return way


def some_thing(chance, depth, words):
    if depth == 0 or chance.random() < 0.4:
        return chance.choice(list(words) + [0, 1, -1, 10 ** 19, True, False, None, "", "A", "*", (), []])
    things = [some_thing(chance, depth - 1, words) for number in range(chance.randrange(5))]
    return things if chance.random() < 0.3 else tuple(things)


def deep_thing(depth, inmost="a"):
    thing = inmost
    for number in range(depth):
        thing = [thing] if number % 2 else (thing,)
    return thing


NO_TUPLES = [0, 1, -1, 2, 10 ** 19, True, False, None, "", "a", "stay", "on u", [], ["stay"], ["a", []], [("stay",)]]


def changed_within(thing, change):
    """All things that come of it where just one thing in it, itself too, is changed."""
    told = list(change(thing))
    if isinstance(thing, tuple):
        for place, part in enumerate(thing):
            told += [thing[:place] + (other,) + thing[place + 1:] for other in changed_within(part, change)]
    return told


def some_machine(chance, stands, moves, words=("u", "v"), marks=("m", "n")):
    told = {(chance.randrange(stands), some_leaf(chance, list(words), list(marks)), chance.randrange(stands))
            for number in range(moves)}
    ends = {chance.randrange(stands) for number in range(chance.randrange(3))}
    return (stands, chance.randrange(stands), tuple(sorted(ends)), tuple(sorted(told)))


def led_plainly(rows, machine, place):
    """The places, tuples (knot, stand), to which one move leads from a place: without steps, and by one step."""
    knot, stand = place
    marks = dict(rows[0])[knot]
    without, stepped = [], []
    for one, leaf, other in machine[3]:
        if one != stand:
            continue
        if leaf == STAY or leaf[0] == "at" and leaf[1] in marks or leaf[0] == "off" and leaf[1] not in marks:
            without.append((knot, other))
        if leaf[0] == "step":
            stepped += [(step[2], other) for step in steps_of(rows, knot)
                        if step[0] == leaf[1] and leaf[2] in ("*", step[1])]
    return without, stepped


def fewest_steps(web, machine, knot):
    """For each place that can be come to from the knot and the begin, by how few steps."""
    rows = web.rows()
    fewest = {(knot, machine[1]): 0}
    led = {}
    grown = True
    while grown:
        grown = False
        for place in list(fewest):
            if place not in led:
                led[place] = led_plainly(rows, machine, place)
            for more, places in enumerate(led[place]):
                for behind in places:
                    if fewest.get(behind, 10 ** 9) > fewest[place] + more:
                        fewest[behind] = fewest[place] + more
                        grown = True
    return fewest


def goes_plainly(web, machine, way):
    """Where one may be on the way and on which stand, until no more come."""
    marks = dict(web.rows()[0])
    knots = [way[0]] + [step[2] for step in way[1]]
    found = {(0, machine[1])}
    while True:
        more = set()
        for place, stand in found:
            for one, leaf, other in machine[3]:
                if one != stand:
                    continue
                if leaf[0] == "step":
                    if place < len(way[1]) and leaf[1] == way[1][place][0] and leaf[2] in ("*", way[1][place][1]):
                        more.add((place + 1, other))
                elif leaf == STAY or (leaf[1] in marks[knots[place]]) == (leaf[0] == "at"):
                    more.add((place, other))
        if more <= found:
            return any((len(way[1]), end) in found for end in machine[2])
        found |= more


def come_plainly(machine, stands, marks):
    found = set(stands)
    for again in range(machine[0]):
        found |= {other for one, leaf, other in machine[3] if one in found and (
            leaf == STAY or leaf[0] == "at" and leaf[1] in marks or leaf[0] == "off" and leaf[1] not in marks)}
    return found


def stepped_plainly(machine, stands, side, word):
    return {other for one, leaf, other in machine[3]
            if one in stands and leaf in (("step", side, word), ("step", side, "*"))}


def lengths_between(rows, pattern, costs):
    """For each pair of knots that some way fits how few steps there are in one, where each tie counts as its cost."""
    knots = [name for name, marks in rows[0]]
    if pattern[0] == "step":
        found = {}
        for (one, word, other), cost in costs.items():
            if pattern[2] in ("*", word):
                pair = (one, other) if pattern[1] == "on" else (other, one)
                found[pair] = min(cost, found.get(pair, cost))
        return found
    if pattern[0] in ("at", "off"):
        return {(name, name): 0 for name, marks in rows[0] if (pattern[1] in marks) == (pattern[0] == "at")}
    if pattern[0] == "either":
        return least_of([lengths_between(rows, part, costs) for part in pattern[1]])
    found = {(knot, knot): 0 for knot in knots}
    if pattern[0] == "then":
        for part in pattern[1]:
            found = put_behind_plainly(found, lengths_between(rows, part, costs))
    if pattern[0] == "many":
        once = lengths_between(rows, pattern[1], costs)
        for knot in knots:
            found = least_of([found, put_behind_plainly(found, once)])
    return found


def least_of(lengths):
    found = {}
    for each in lengths:
        for pair, length in each.items():
            found[pair] = min(length, found.get(pair, length))
    return found


def put_behind_plainly(firsts, lasts):
    found = {}
    for (one, middle), length in firsts.items():
        for (again, other), more in lasts.items():
            if again == middle:
                found[(one, other)] = min(length + more, found.get((one, other), length + more))
    return found


def pairs_plainly(rows, pattern):
    return sorted(lengths_between(rows, pattern, {tie: 1 for tie in rows[1]}))


def plain_lengths_plainly(rows, rules):
    """For each of the rules' ties that is no tie of the web its plain length, bettered until nothing is better."""
    told = {}
    while True:
        costs = {**told, **{tie: 1 for tie in rows[1]}}
        better = {}
        for word, pattern in rules:
            for (one, other), length in lengths_between(rows, pattern, costs).items():
                tie = (one, word, other)
                if tie not in rows[1]:
                    better[tie] = min(length, better.get(tie, length))
        if better == told:
            return told
        told = better


def with_ties(rows, ties):
    return (rows[0], tuple(sorted(set(rows[1]) | set(ties))))


def some_rules(chance, most, words=("r", "s", "u"), within=("r", "s", "u", "v"), parts=8):
    return [(chance.choice(words), some_pattern(chance, chance.randint(1, parts), 10, within))
            for number in range(chance.randint(0, most))]
