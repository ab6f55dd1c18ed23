"""What the document says of words, tales, papers and runs, by its words: slow, and apart from the package."""

INFINITE = float("inf")
SCALE = 10 ** 40


class Wrong(Exception):
    """What is judged is not what it should be."""


def need(condition):
    if not condition:
        raise Wrong()


def is_int(thing):
    return type(thing) is int


def words_up_to(program, most):
    """For each procedure the set of its words of up to so many letters."""
    words = {name: set() for name in program.procedures}

    def joined(left, right):
        return {one + other for one in left for other in right if len(one) + len(other) <= most}

    def of(body):
        tag = body[0]
        if tag == "none":
            return {()}
        if tag == "read":
            return {(body[1],)} if most else set()
        if tag == "call":
            return words[body[1]]
        if tag == "either":
            return set().union(*[of(part) for part in body[1]])
        if tag == "then":
            found = {()}
            for part in body[1]:
                found = joined(found, of(part))
            return found
        inner = of(body[3] if tag == "times" else body[1])
        layer, found = {()}, set()
        for many in range(body[2] + 1 if tag == "times" else most + 1):
            if tag == "any" or many >= body[1]:
                found = found | layer
            layer = joined(layer, inner)
        return found

    while True:
        now = {name: of(body) for name, body in program.procedures.items()}
        if now == words:
            return words
        words = now


def loops_of(program):
    """The dict from the heads of loops to their bodies."""
    found = {}

    def look(name, body, path):
        if body[0] == "any":
            found[(name, path)] = body[1]
        inner = {"then": lambda: body[1], "either": lambda: body[1], "times": lambda: [body[3]], "any": lambda: [body[1]]}
        for index, part in enumerate(inner.get(body[0], lambda: [])()):
            look(name, part, path + (index,))

    for name, body in program.procedures.items():
        look(name, body, ())
    return found


def heads_of(program):
    return sorted([(name,) for name in program.procedures] + list(loops_of(program)))


def need_head(program, head):
    need(type(head) is tuple and len(head) in (1, 2) and type(head[0]) is str)
    if len(head) == 2:
        need(type(head[1]) is tuple and all(is_int(index) for index in head[1]))
    need(head in heads_of(program))


def entry_runs(memory, program, tale, with_gap):
    """The list of (head, state, end, a, b, count, word) of the entries; Wrong(at) with the first that is none."""
    runs = []
    if type(tale) is not tuple or not tale:
        raise Wrong(None)
    for at, entry in enumerate(tale):
        try:
            runs.append(entry_run(memory, program, runs, entry, with_gap and at == 0))
        except Wrong:
            raise Wrong(at) from None
    return runs


def entry_run(memory, program, runs, entry, is_gap):
    need(type(entry) is tuple and len(entry) == (4 if is_gap else 3))
    if is_gap:
        need(type(entry[0]) is str and entry[0] == "gap")
        need_head(program, entry[1])
        need(all(is_int(state) and 0 <= state < len(memory) for state in entry[2:]))
        return (entry[1], entry[2], entry[3], 0, 0, 1, ())
    head, state, play = entry
    need_head(program, head)
    need(is_int(state) and 0 <= state < len(memory))
    if len(head) == 1:
        return (head, state) + play_run(memory, runs, head[0], program.procedures[head[0]], (), play, state)
    need(type(play) is tuple and play and type(play[0]) is str)
    if play[0] == "end":
        need(len(play) == 1)
        return (head, state, state, 0, 0, 0, ())
    need(play[0] == "more" and len(play) == 3)
    first = play_run(memory, runs, head[0], loops_of(program)[head], head[1] + (0,), play[1], state)
    return (head, state) + behind(first, named_run(runs, head, play[2], first[0]))


def behind(first, second):
    return (second[0], first[1] + second[1], first[2] + second[2], first[3] + second[3], first[4] + second[4])


def named_run(runs, head, number, state):
    need(is_int(number) and 0 <= number < len(runs))
    need(runs[number][0] == head and runs[number][1] == state)
    return runs[number][2:]


def play_run(memory, runs, name, body, path, play, state):
    """(end, a, b, count, word) of a play of a body."""
    need(type(play) is tuple and play and type(play[0]) is str and play[0] == body[0])
    tag = body[0]
    if tag == "none":
        need(len(play) == 1)
        return (state, 0, 0, 0, ())
    if tag == "read":
        need(len(play) == 1)
        end, a, b = memory.moves[state][memory.letters.index(body[1])]
        return (end, a, b, 0, (body[1],))
    if tag in ("any", "call"):
        need(len(play) == 2)
        return named_run(runs, (name, path) if tag == "any" else (body[1],), play[1], state)
    if tag == "either":
        need(len(play) == 3 and is_int(play[1]) and 0 <= play[1] < len(body[1]))
        return play_run(memory, runs, name, body[1][play[1]], path + (play[1],), play[2], state)
    need(len(play) == 2 and type(play[1]) is tuple)
    if tag == "then":
        need(len(play[1]) == len(body[1]))
        places = [(part, path + (index,)) for index, part in enumerate(body[1])]
    else:
        need(body[1] <= len(play[1]) <= body[2])
        places = [(body[3], path + (0,))] * len(play[1])
    found = (state, 0, 0, 0, ())
    for (part, place), inner in zip(places, play[1]):
        found = behind(found, play_run(memory, runs, name, part, place, inner, found[0]))
    return found


def is_tale(memory, program, thing, with_gap=False):
    try:
        return entry_runs(memory, program, thing, with_gap) is not None
    except Wrong:
        return False


def pump_gain(memory, program, start, goals, thing):
    """The pair of the round of what may be a pump; None if it is none."""
    try:
        need(type(thing) is tuple and len(thing) == 3)
        way, lap, rest = [entry_runs(memory, program, tale, gap) for tale, gap in zip(thing, (True, True, False))]
        need(len(way) > 1 and len(lap) > 1 and way[0] == lap[0])
        need(lap[-1][:3] == lap[0][:3] and lap[-1][5] == 1 and rest[-1][:3] == lap[0][:3])
        need(way[-1][:2] == ((program.first,), start) and way[-1][2] in goals and way[-1][5] > 0)
        return lap[-1][3:5]
    except Wrong:
        return None


def grow(value, other):
    """What two parts behind each other are: a number or open."""
    return "open" if "open" in (value, other) else value + other


def greater(value, other):
    """The greater one of what two ways are: a number or open."""
    return "open" if "open" in (value, other) else max(value, other)


def product(left, right):
    found = {}
    for (state, mid), value in left.items():
        for (middle, end), other in right.items():
            if mid == middle:
                joined = grow(value, other)
                found[(state, end)] = greater(found[(state, end)], joined) if (state, end) in found else joined
    return found


def union(left, right):
    found = dict(left)
    for place, value in right.items():
        found[place] = greater(found[place], value) if place in found else value
    return found


def step_worth(price, a, b):
    return price[0] * a + price[1] * b


def short_worth(price, a, b):
    """As one number a worth and a length: of the same worth the one of less length is greater."""
    return step_worth(price, a, b) * SCALE - 1


def productions(memory, program, price, table, step=step_worth):
    """For each head the dict from (state, end) to what its productions can do, heads being worth what a table has."""
    loops = loops_of(program)
    unit = {(state, state): 0 for state in range(len(memory))}

    def of(name, body, path):
        tag = body[0]
        if tag == "none":
            return unit
        if tag == "read":
            column = memory.letters.index(body[1])
            return {(state, row[column][0]): step(price, row[column][1], row[column][2])
                    for state, row in enumerate(memory.moves)}
        if tag == "call":
            return table[(body[1],)]
        if tag == "any":
            return table[(name, path)]
        found = unit if tag == "then" else {}
        if tag == "times":
            inner, layer = of(name, body[3], path + (0,)), unit
            for many in range(body[2] + 1):
                if many >= body[1]:
                    found = union(found, layer)
                layer = product(layer, inner)
            return found
        for index, part in enumerate(body[1]):
            inner = of(name, part, path + (index,))
            found = product(found, inner) if tag == "then" else union(found, inner)
        return found

    told = {(name,): of(name, body, ()) for name, body in program.procedures.items()}
    for head, body in loops.items():
        told[head] = union(unit, product(of(head[0], body, head[1] + (0,)), table[head]))
    return told


def worths(memory, program, price, step=step_worth):
    """For each head the dict from (state, end) to the greatest worth of its runs, INFINITE without a bound."""
    table = {head: {} for head in heads_of(program)}
    triples = len(table) * len(memory) ** 2
    rounds = 0
    while True:
        rounds += 1
        now = productions(memory, program, price, table, step)
        changed = False
        for head in table:
            for place, value in now[head].items():
                if table[head].get(place) != value:
                    changed = True
                    # Each run of less height than there are triples is counted by now: what still grows has a pump.
                    if rounds > triples + 1:
                        now[head] = {**now[head], place: INFINITE}
        if not changed:
            return table
        table = now


def most(memory, program, start, goals, price, known=None):
    table = (known or worths(memory, program, price))[(program.first,)]
    found = [table[(start, goal)] for goal in goals if (start, goal) in table]
    if not found:
        return None
    return "endless" if max(found) == INFINITE else max(found)


def lettered_productions(lettering, program, price, table):
    """For each head the dict from (s, t) to what its productions cost at a price, None without any way left out."""
    from hitclocks.fronts import at_price
    rows = len(next(iter(lettering.values())))
    loops = loops_of(program)
    unit = {(s, s): 0 for s in range(rows)}

    def number(front):
        return INFINITE if at_price(front, price) == "endless" else at_price(front, price)

    def of(name, body, path):
        tag = body[0]
        if tag == "none":
            return unit
        if tag == "read":
            found = {(s, t): number(front) for s, row in enumerate(lettering[body[1]]) for t, front in enumerate(row)}
            return {place: value for place, value in found.items() if value is not None}
        if tag == "call":
            return table[(body[1],)]
        if tag == "any":
            return table[(name, path)]
        found = unit if tag == "then" else {}
        if tag == "times":
            inner, layer = of(name, body[3], path + (0,)), unit
            for many in range(body[2] + 1):
                if many >= body[1]:
                    found = union(found, layer)
                layer = product(layer, inner)
            return found
        for index, part in enumerate(body[1]):
            inner = of(name, part, path + (index,))
            found = product(found, inner) if tag == "then" else union(found, inner)
        return found

    told = {(name,): of(name, body, ()) for name, body in program.procedures.items()}
    for head, body in loops.items():
        told[head] = union(unit, product(of(head[0], body, head[1] + (0,)), table[head]))
    return told


def lettered_costs(lettering, program, price):
    """For each head the dict from (s, t) to the most that heights tells at a price, INFINITE without a bound."""
    table = {head: {} for head in heads_of(program)}
    unknowns = len(table) * len(next(iter(lettering.values()))) ** 2
    rounds = 0
    while True:
        rounds += 1
        now = lettered_productions(lettering, program, price, table)
        if now == table:
            return table
        if rounds > unknowns + 1:
            for head in table:
                for place, value in now[head].items():
                    if table[head].get(place) != value:
                        now[head] = {**now[head], place: INFINITE}
        table = now


def ordered_worths(memory, program, price, most):
    """For each (head, order), order up to most, the dict from (s, t) to the greatest worth of runs of just this order."""
    loops = loops_of(program)
    many = len(memory)
    unit = {(s, s, 0, 0): 0 for s in range(many)}

    def put(found, place, value):
        if found.get(place, -INFINITE) < value:
            found[place] = value

    def behind_all(left, right):
        found = {}
        for (s, mid, order, count), value in left.items():
            for (middle, t, other, others), more in right.items():
                if mid == middle:
                    top = max(order, other)
                    named = min(2, (count if order == top else 0) + (others if other == top else 0))
                    put(found, (s, t, top, named), value + more)
        return found

    def named(table, head):
        found = {}
        for order in range(1, most + 1):
            for (s, t), value in table[head, order].items():
                put(found, (s, t, order, 1), value)
        return found

    def of(table, name, body, path):
        tag = body[0]
        if tag == "none":
            return unit
        if tag == "read":
            column = memory.letters.index(body[1])
            return {(s, row[column][0], 0, 0): price[0] * row[column][1] + price[1] * row[column][2]
                    for s, row in enumerate(memory.moves)}
        if tag in ("call", "any"):
            return named(table, (body[1],) if tag == "call" else (name, path))
        found = {}
        if tag == "times":
            inner, layer = of(table, name, body[3], path + (0,)), unit
            for number in range(body[2] + 1):
                for place, value in layer.items() if number >= body[1] else ():
                    put(found, place, value)
                layer = behind_all(layer, inner)
            return found
        found = unit if tag == "then" else {}
        for index, part in enumerate(body[1]):
            inner = of(table, name, part, path + (index,))
            if tag == "then":
                found = behind_all(found, inner)
            else:
                found = dict(found)
                for place, value in inner.items():
                    put(found, place, value)
        return found

    table = {(head, order): {} for head in heads_of(program) for order in range(1, most + 1)}
    rounds = 0
    while True:
        rounds += 1
        now = {key: {} for key in table}
        for head in heads_of(program):
            if len(head) == 1:
                can = of(table, head[0], program.procedures[head[0]], ())
            else:
                can = dict(unit)
                once = of(table, head[0], loops[head], head[1] + (0,))
                for place, value in behind_all(once, named(table, head)).items():
                    put(can, place, value)
            for (s, t, order, count), value in can.items():
                own = 1 if order == 0 else order + (count > 1)
                if own <= most:
                    put(now[head, own], (s, t), value)
        if now == table:
            return table
        if rounds > len(table) * many * many + 1:
            for key in table:
                for place, value in now[key].items():
                    if table[key].get(place) != value:
                        now[key][place] = INFINITE
        table = now


def is_short_paper(memory, program, price, thing):
    try:
        need(type(thing) is tuple and len(thing) == 2 and type(thing[1]) is dict)
        for value in thing[1].values():
            need(type(value) is tuple and len(value) == 2 and all(is_int(number) for number in value))
    except Wrong:
        return False
    numbers = {triple: value[0] * SCALE - value[1] for triple, value in thing[1].items()}
    return is_paper(memory, program, price, (thing[0], numbers), short_worth)


def is_paper(memory, program, price, thing, step=step_worth):
    try:
        need(type(thing) is tuple and len(thing) == 2 and type(thing[0]) is tuple and type(thing[1]) is dict)
        for triple in list(thing[0]) + list(thing[1]):
            need(type(triple) is tuple and len(triple) == 3)
            need_head(program, triple[0])
            need(all(is_int(state) and 0 <= state < len(memory) for state in triple[1:]))
        need(all(is_int(number) for number in thing[1].values()))
        need(list(thing[0]) == sorted(set(thing[0])) and not set(thing[0]) & set(thing[1]))
    except Wrong:
        return False
    table = {}
    for head in heads_of(program):
        table[head] = {}
        for state in range(len(memory)):
            for end in range(len(memory)):
                if (head, state, end) not in thing[0]:
                    table[head][(state, end)] = thing[1].get((head, state, end), "open")
    can = productions(memory, program, price, table, step)
    for head, state, end in thing[0]:
        if (state, end) in can[head]:
            return False
    for (head, state, end), number in thing[1].items():
        value = can[head].get((state, end), None)
        if value == "open" or value is not None and value > number:
            return False
    return True


def mutants(value):
    """Values that are like this one but for one thing at any place."""
    if type(value) is int:
        yield from (value + 1, value - 1, True, False, None, str(value), (value,), [value], value + 1000)
    elif type(value) is str:
        yield from (value + "x", "", None, 0, (value,), "none", "end", "a")
    elif type(value) in (tuple, list):
        yield list(value) if type(value) is tuple else tuple(value)
        yield None
        yield value + value[-1:]
        yield value + type(value)((0,))
        for at, item in enumerate(value):
            yield value[:at] + value[at + 1:]
            yield value[:at] + value[at:at + 1] + value[at:]
            if at:
                yield value[:at - 1] + (value[at:at + 1] + value[at - 1:at]) + value[at + 1:]
            for changed in mutants(item):
                yield value[:at] + type(value)((changed,)) + value[at + 1:]
    elif type(value) is dict:
        yield list(value.items())
        yield {**value, "x": None}
        yield dict(reversed(list(value.items())))
        for key, item in value.items():
            rest = {other: value[other] for other in value if other != key}
            yield rest
            for changed in mutants(item):
                yield {**rest, key: changed}
            for changed in mutants(key):
                try:
                    yield {**rest, changed: item}
                except TypeError:
                    pass
    else:
        yield from (0, False, (), "x")
