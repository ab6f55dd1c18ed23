"""Least fronts that are not below what is told of them by each other."""

from hitclocks.fronts import join_of, star_of, sum_of


def put_summed(row, others, front):
    """Has a row, a dict from unknowns to fronts, tell also what another one tells, each summed with a front."""
    for unknown, more in others.items():
        row[unknown] = join_of(row.get(unknown, None), sum_of(front, more))


class Unknowns:
    """For each unknown the dict from unknowns to what is paid beside them, and the front without any of these."""

    def __init__(self, rows, fronts):
        self.rows = rows
        self.fronts = fronts
        self.users = [{} for _ in rows]
        for number, row in enumerate(rows):
            for other in row:
                self.users[other][number] = True

    def solve(self):
        """The list of the least fronts of the unknowns."""
        order = []
        left = {}
        for number in range(len(self.rows)):
            left[number] = True
        while left:
            number = min([(len(self.rows[at]) * len(self.users[at]), at) for at in left])[1]
            del left[number]
            self.put_away(number)
            order.append(number)
        for number in reversed(order):
            for other, front in self.rows[number].items():
                self.fronts[number] = join_of(self.fronts[number], sum_of(front, self.fronts[other]))
        return self.fronts

    def put_away(self, number):
        """Has all others tell what they tell without this unknown."""
        row = self.rows[number]
        star = star_of(row.pop(number, None))
        self.users[number].pop(number, None)
        for other in list(row):
            row[other] = sum_of(star, row[other])
            del self.users[other][number]
        self.fronts[number] = sum_of(star, self.fronts[number])
        for user in list(self.users[number]):
            front = self.rows[user].pop(number)
            self.fronts[user] = join_of(self.fronts[user], sum_of(front, self.fronts[number]))
            put_summed(self.rows[user], row, front)
            for other in row:
                self.users[other][user] = True
