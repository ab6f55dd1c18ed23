"""What the tests share: a fixed drawing of inputs, values of every kind, and how errors are asked for."""

from hitclocks.memories import Memory
from hitclocks.programs import Program

ROUND_PROGRAM = {"f": ("either", (("then", (("read", "a"), ("call", "f"), ("read", "b"))), ("none",)))}


def any_values():
    """Values of every kind, few of which fit anywhere."""
    deep = ()
    for _ in range(58):
        deep = (deep,)
    return [
        None, True, False, 0, 1, -1, 7, 10 ** 12, "", "a", "f", "endless", "none", "at", (), [], {}, (0,), (1,), (True,),
        (0, 0), (1, 0), [1, 0], (True, False), (1, True), (0, 1, 2), ("a",), ["a"], ("a", "b"), ("endless",), ["endless"],
        ("at", (1, 0), 0), ["at", (1, 0), 0], ("none",), ("read", "a"), ("end",), ("f",), (("f",), 0, 0), ((), {}),
        [()], (None,), [None], {"a": 1}, {0: 0}, {(): ()}, {"front": None}, (("f",), 0, ("none",)), ((("f",), 0, ("none",)),),
        [[[[]]]], {"a": {"b": [1, (2, {"c": None})]}}, deep, simple_memory(), simple_program(), (simple_memory(),),
    ]


def simple_memory():
    """One state, where a costs (2, 0) and b (0, -3)."""
    return Memory(("a", "b"), (((0, 2, 0), (0, 0, -3)),))


def simple_program():
    """As many a as b, the a first."""
    return Program(ROUND_PROGRAM, "f")


class Drawing:
    """Numbers that seem to be drawn, the same ones for the same seed."""

    def __init__(self, seed):
        self.state = (seed * 2654435761 + 12345) & 0x7FFFFFFF

    def below(self, many):
        self.state = (self.state * 1103515245 + 12345) & 0x7FFFFFFF
        return (self.state >> 8) % many

    def between(self, low, high):
        return low + self.below(high - low + 1)

    def pick(self, things):
        return things[self.below(len(things))]

    def memory(self, states, letters, span):
        names = ("a", "b", "c", "d")[:letters]
        rows = []
        for _ in range(states):
            rows.append(tuple((self.below(states), self.between(-span, span), self.between(-span, span)) for _ in names))
        return Memory(names, tuple(rows))

    def body(self, depth, letters, names):
        kind = self.below(10) if depth else self.below(4)
        if kind == 0:
            return ("none",)
        if kind <= 2:
            return ("read", self.pick(letters))
        if kind == 3:
            return ("call", self.pick(names))
        if kind <= 5:
            return ("then", tuple(self.body(depth - 1, letters, names) for _ in range(self.below(4))))
        if kind <= 7:
            return ("either", tuple(self.body(depth - 1, letters, names) for _ in range(self.below(4))))
        if kind == 8:
            low = self.below(3)
            return ("times", low, low + self.below(3), self.body(depth - 1, letters, names))
        return ("any", self.body(depth - 1, letters, names))

    def program(self, procedures, depth, letters):
        names = ("f", "g", "h")[:procedures]
        bodies = {}
        for name in names:
            bodies[name] = ("either", (self.body(depth, letters, names), self.body(depth - 1, letters, names)))
        return Program(bodies, "f")

    def tale(self, memory, program, tries):
        """A tale of drawn choices, of as many entries as come to an end in so many tries."""
        from reference import heads_of, loops_of
        entries, ends, known = [], [], {}
        loops = loops_of(program)

        def named(head, state):
            numbers = known.get((head, state), [])
            return self.pick(numbers) if numbers else None

        def play(name, body, path, state):
            tag = body[0]
            if tag == "none":
                return ("none",), state
            if tag == "read":
                return ("read",), memory.moves[state][memory.letters.index(body[1])][0]
            if tag in ("call", "any"):
                number = named((body[1],) if tag == "call" else (name, path), state)
                return ((tag, number), ends[number]) if number is not None else None
            if tag == "either":
                at = self.below(len(body[1])) if body[1] else 0
                inner = play(name, body[1][at], path + (at,), state) if body[1] else None
                return inner and (("either", at, inner[0]), inner[1])
            if tag == "then":
                parts = [(part, path + (at,)) for at, part in enumerate(body[1])]
            else:
                parts = [(body[3], path + (0,))] * self.between(body[1], body[2])
            plays = []
            for part, place in parts:
                inner = play(name, part, place, state)
                if inner is None:
                    return None
                plays.append(inner[0])
                state = inner[1]
            return (tag, tuple(plays)), state

        for _ in range(tries):
            head, state = self.pick(heads_of(program)), self.below(len(memory))
            if len(head) == 1:
                told = play(head[0], program.procedures[head[0]], (), state)
            elif self.below(3) == 0:
                told = ("end",), state
            else:
                told = play(head[0], loops[head], head[1] + (0,), state)
                number = named(head, told[1]) if told else None
                told = (("more", told[0], number), ends[number]) if number is not None else None
            if told:
                known.setdefault((head, state), []).append(len(entries))
                entries.append((head, state, told[0]))
                ends.append(told[1])
        return tuple(entries)

    def pair(self, span):
        return (self.between(-span, span), self.between(-span, span))

    def price(self):
        from hitclocks.prices import price_of
        p = self.below(6)
        return price_of(p, self.below(6) if p else 1 + self.below(5))

    def front(self, span):
        """A front of any of the four kinds."""
        from hitclocks.fronts import joined, front_of
        kind = self.below(10)
        if kind == 0:
            return None
        if kind == 1:
            return ("endless",)
        if kind <= 3:
            return ("at", self.price(), self.between(-span, span))
        front = front_of([self.pair(span) for _ in range(1 + self.below(5))])
        if kind <= 6:
            return front
        low, high = self.price(), self.price()
        if low[0] * high[1] <= low[1] * high[0]:
            return front
        return joined(front, ("over", low, high, ((-10 * span, -10 * span),)))


def some_prices():
    """Prices from (1, 0) to (0, 1), many of them."""
    from math import gcd
    prices = [(p, q) for p in range(8) for q in range(8) if gcd(p, q) == 1]
    return sorted(prices, key=lambda price: price[1] / (price[0] + price[1]))


def caught(test, error, attributes, function, *values, **named):
    """Asks for just this error, with just these attributes."""
    with test.assertRaises(error) as caught_error:
        function(*values, **named)
    test.assertIs(type(caught_error.exception), error)
    for name, value in attributes.items():
        test.assertEqual(getattr(caught_error.exception, name), value)
        test.assertIs(type(getattr(caught_error.exception, name)), type(value))


def program_of_heads(many):
    """A program of just so many heads, up to 64 * 65; its first procedure has the one word ("a",)."""
    loop = ("any", ("read", "a"))
    procedures = {"a": ("read", "a")}
    left = many - 1
    while left:
        loops = min(64, left - 1)
        rows = tuple(("either", (loop,) * min(8, loops - at)) for at in range(0, loops, 8))
        procedures["p" + str(len(procedures))] = ("then", rows)
        left -= loops + 1
    return Program(procedures, "a")


NOT_NUMBERS = [True, False, None, "1", "", (), (0,), [0], {}, ("a",)]


def wrong_values(*names):
    """The values that are refused for these parameters, each with its error and the attributes of that."""
    from hitclocks import errors
    foreign = Program({"f": ("read", "a"), "g": ("times", 0, 0, ("then", (("read", "zz"), ("read", "z"))))}, "f")
    things = any_values()
    wrong = {
        "memory": [(thing, errors.BadMemory, {"part": None}) for thing in things if not isinstance(thing, Memory)],
        "program": [(thing, errors.BadProgram, {"part": None}) for thing in things if not isinstance(thing, Program)],
        "state": [(thing, errors.BadState, {}) for thing in NOT_NUMBERS + [-1, 120, 10 ** 12]],
        "goals": [(thing, errors.BadGoals, {}) for thing in [
            (), [0], (0, 0), (120,), (-1,), (True,), (False,), (0, True), (0, None), None, 0, "0", {0: 0}, ((0,),)]],
        "price": [(thing, errors.BadPrice, {}) for thing in [
            (0, 0), (2, 2), (-1, 1), (True, 0), (False, 1), (1, 0, 0), [1, 0], None, 1, "10", (1, None), {}]],
    }
    wrong["letters"] = wrong["program"] + [(foreign, errors.NoLetter, {"letter": "z"})]
    return {name: wrong[kind] for name, kind in names}


def refuses(test, function, good, wrong):
    """Asks for the error of each wrong value, and for the leftmost one of several."""
    names = list(good)
    for at, name in enumerate(names):
        for thing, error, attributes in wrong[name]:
            values = {**good, name: thing}
            caught(test, error, attributes, function, **values)
            caught(test, error, attributes, function, *values.values())
        for later in names[at + 1:]:
            for thing, error, attributes in wrong[name][:2] + wrong[name][-2:]:
                for other in (wrong[later][0][0], wrong[later][-1][0]):
                    caught(test, error, attributes, function, **{**good, name: thing, later: other})


def numbers_beyond(low, high):
    """Values that are no number from low to high."""
    from hitclocks.errors import BadNumber
    return [(thing, BadNumber, {}) for thing in NOT_NUMBERS + [low - 1, high + 1, -10 ** 12, 10 ** 12]]


def both_ways(test, function, **named):
    """The result by names, which has to be the one by position, too."""
    by_name = function(**named)
    test.assertEqual(by_name, function(*named.values()))
    return by_name
