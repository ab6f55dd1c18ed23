"""Which of several fronts are least, at which prices."""

from hitclocks.errors import BadFronts
from hitclocks.fronts import is_front, told_at
from hitclocks.kinds import is_list
from hitclocks.prices import amid, check_price
from hitclocks.unders import turning_prices

MOST_BESIDE = 12


def check_fronts(fronts):
    """BadFronts unless it is a list of 1 to 12 fronts."""
    if not is_list(fronts) or not 1 <= len(fronts) <= MOST_BESIDE:
        raise BadFronts(None)
    for at, front in enumerate(fronts):
        if not is_front(front):
            raise BadFronts(at)


def best_at(fronts, price):
    """The ascending tuple of the indexes of the fronts that are least at a price."""
    check_fronts(fronts)
    check_price(price)
    return best_told(fronts, price)


def best_told(fronts, price):
    """As best_at, without checks."""
    return least_of([told_at(front, price) for front in fronts])


def least_of(told):
    """The ascending tuple of the indexes of what is least: None is so, then numbers, "endless" is the greatest."""
    ranks = [rank_of(one) for one in told]
    return tuple([at for at, rank in enumerate(ranks) if rank == min(ranks)])


def rank_of(told):
    """A pair that is the less, the less is told: None, a number, or "endless"."""
    if told is None:
        return (0, 0)
    return (2, 0) if told == "endless" else (1, told)


def stairs(fronts):
    """The list of steps, from (1, 0) to (0, 1), on each of which the same fronts are best."""
    check_fronts(fronts)
    prices = turning_prices(fronts)
    steps = []
    for at, price in enumerate(prices):
        put_step(steps, (price, True, price, True, best_told(fronts, price)))
        if at + 1 < len(prices):
            further = prices[at + 1]
            put_step(steps, (price, False, further, False, best_told(fronts, amid(price, further))))
    return steps


def put_step(steps, step):
    """Puts a step behind the others, as one with the last one if the same fronts are best on both."""
    if steps and steps[-1][4] == step[4]:
        low, low_in, _, _, best = steps.pop()
        step = (low, low_in, step[2], step[3], best)
    steps.append(step)


def fewest(fronts):
    """The least of the shortest ascending tuples of indexes of which at each price one is best."""
    rows = [step[4] for step in stairs(fronts)]
    lots = [()]
    while True:
        for lot in lots:
            if meets_all(lot, rows):
                return lot
        lots = [lot + (at,) for lot in lots for at in range(lot[-1] + 1 if lot else 0, len(fronts))]


def meets_all(lot, rows):
    """Whether each of these rows has something of a lot."""
    for row in rows:
        if not [at for at in row if at in lot]:
            return False
    return True
