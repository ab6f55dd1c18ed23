"""What programs cost by matrices, and by how much must be kept open side by side."""

from hitclocks.bodies import bodies_of_heads
from hitclocks.cases import check_case
from hitclocks.equations import check_lettered, check_unknowns, empty_table, lettering_of, rows_of
from hitclocks.errors import BadNumber
from hitclocks.fronts import join_of
from hitclocks.growths import Growths
from hitclocks.kinds import is_number_from
from hitclocks.leaves import leaves_of, named_in
from hitclocks.tales import checked_runs

MOST_ORDER = 160


def costs(lettering, program):
    """At each place the greatest that heights tells for any number."""
    check_lettered(lettering, program)
    check_unknowns(program, rows_of(lettering))
    return table_and_order(lettering, program)[0]


def table_and_order(lettering, program):
    """The table of all orders, and the least order by which it is come to."""
    table = empty_table(lettering, program)
    order = 0
    while True:
        following = Growths(lettering, program, table).next_table()
        if following == table:
            return (table, order)
        table = following
        order += 1


def orders_told(memory, program, tale):
    """The list of the orders of the entries of a tale."""
    checked_runs(memory, program, tale, False)
    bodies = bodies_of_heads(program.procedures)
    orders = []
    for entry in tale:
        named = [orders[number] for number in named_in(leaves_of(bodies, entry))]
        most = max(named, default=1)
        orders.append(most + 1 if named.count(most) > 1 else most)
    return orders


def by_order(lettering, program, number):
    """The table of what runs of up to this order cost."""
    check_lettered(lettering, program)
    if not is_number_from(number, 0, MOST_ORDER):
        raise BadNumber("not a number from 0 to 160")
    check_unknowns(program, rows_of(lettering))
    table = empty_table(lettering, program)
    for _ in range(number):
        following = Growths(lettering, program, table).next_table()
        if following == table:
            break
        table = following
    return table


def order_of(lettering, program):
    """The least order for which by_order tells the same as for the next one."""
    check_lettered(lettering, program)
    check_unknowns(program, rows_of(lettering))
    return table_and_order(lettering, program)[1]


def whole_by_orders(memory, program, start, goals):
    """The whole front of the runs, found by matrices."""
    check_case(memory, program, start, goals)
    check_unknowns(program, len(memory))
    row = table_and_order(lettering_of(memory), program)[0][(program.first,)][start]
    front = None
    for goal in goals:
        front = join_of(front, row[goal])
    return front
