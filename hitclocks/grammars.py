"""Programs written out as symbols: each one has few and short ways to be done."""

from hitclocks.bodies import bodies_of_heads, placed_parts
from hitclocks.folds import folded


class Grammar:
    """Symbols by their numbers: those of the heads first, in order, then those of the places in bodies.

    A symbol can be nothing (empties), a letter (letters), one of some symbols (units), or two symbols,
    one behind the other (pairs). What a play of the place looks like is told by shapes.
    """

    def __init__(self, procedures):
        self.heads = list(bodies_of_heads(procedures))
        self.numbers = {}
        self.empties = []
        self.letters = []
        self.units = []
        self.pairs = []
        self.shapes = []
        for number, head in enumerate(self.heads):
            self.numbers[head] = number
            self.added(None)
        for name, body in procedures.items():
            self.units[self.numbers[(name,)]] = (self.root_of(name, body),)

    def root_of(self, name, body):
        """The symbol of the body of a procedure, all its parts placed, too."""
        return folded(((), body), placed_parts, lambda node, parts: self.placed(name, node[0], node[1], parts))

    def added(self, shape):
        """A new symbol that can be done in no way yet."""
        self.empties.append(False)
        self.letters.append(None)
        self.units.append(())
        self.pairs.append(None)
        self.shapes.append(shape)
        return len(self.shapes) - 1

    def placed(self, name, path, body, parts):
        """The symbol of a body at this place, whose parts have these symbols."""
        tag = body[0]
        if tag == "call":
            return self.numbers[(body[1],)]
        if tag == "any":
            head = self.numbers[(name, path)]
            self.empties[head] = True
            self.pairs[head] = (parts[0], head)
            return head
        if tag == "times":
            return self.placed_times(body, parts[0])
        if tag == "then":
            return self.placed_then(parts)
        if tag == "either":
            return self.placed_either(parts)
        symbol = self.added((tag,))
        if tag == "read":
            self.letters[symbol] = body[1]
        else:
            self.empties[symbol] = True
        return symbol

    def placed_either(self, parts):
        """A symbol that is done as one of these."""
        symbol = self.added(("either", tuple(parts)))
        self.units[symbol] = tuple(parts)
        return symbol

    def placed_then(self, parts):
        """A symbol that is done as all of these: the first one, then a symbol for those that are left."""
        symbol = self.added(("then", tuple(parts)))
        if len(parts) == 0:
            self.empties[symbol] = True
        elif len(parts) == 1:
            self.units[symbol] = (parts[0],)
        else:
            rest = parts[-1]
            for part in reversed(parts[1:-1]):
                further = self.added(None)
                self.pairs[further] = (part, rest)
                rest = further
            self.pairs[symbol] = (parts[0], rest)
        return symbol

    def placed_times(self, body, part):
        """A symbol that is done as this part from low to high times: once, then a symbol for what is left."""
        low, high = body[1], body[2]
        symbol = self.added(("times", part, low, high))
        self.empties[symbol] = True
        for many in range(high - 1, -1, -1):
            further = self.added(("times", part, low, high))
            self.empties[further] = many >= low
            self.pairs[further] = (part, symbol)
            symbol = further
        return symbol
