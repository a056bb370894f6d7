"""Square forms: symmetric tables of fractions, and where they are below 0."""

from chargeturns.elimination import cleared, without
from chargeturns.rows import corners


def below_nought(table):
    """Integers, one for each row of the table, for which its form is below 0; None if it is so for none.

    The form is, over all places of the table, its fraction times the integers of its row and of its column, added up.
    """
    many = len(table)
    # Behind a sum of rows stand the integers that make it; by elimination all else of their form is 0
    # but the product of the numbers at the row's own place.
    waiting = [cleared(tuple(row) + corner) for row, corner in zip(table, corners(many))]
    for place in range(many):
        first, waiting = waiting[0], waiting[1:]
        if first[place] < 0:
            return first[many:]
        if first[place] > 0:
            # These multiples of the rows are above 0: the signs stay.
            waiting = [without(row, first, place) for row in waiting]
        for at, row in enumerate(waiting, start=place + 1):
            if first[place] == 0 and first[at] != 0:
                return _weighed_down(first[many:], first[at] * row[many + at], row[many:], row[at] * row[many + at])
    return None


def _weighed_down(flat, product, other, form):
    """The other integers and so many times the flat ones, whose form is 0, that the form of their sum is below 0.

    The product is that of both, not 0; the form is that of the other integers.
    """
    factor = abs(form) // (2 * abs(product)) + 1
    if product > 0:
        factor = -factor
    return [number * factor + more for number, more in zip(flat, other)]
