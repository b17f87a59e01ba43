"""What the days of actors cost (points 901 and 902)."""

from callsheets.days import NOT_WORKED, figures_of
from callsheets.errors import MoneyError
from callsheets.rules import SPAN

FEE_STEPS = 4
LONGEST_SPAN = 3000
MOST_MONEY = 99999
HALF_HOUR = 30


def check_fees(film, fees):
    """Return None for right fees, otherwise raise MoneyError."""
    if len(fees) != len(film[1]):
        raise MoneyError("many")
    for fee, steps in fees:
        if not 0 <= fee <= MOST_MONEY:
            raise MoneyError("fee")
        if not _are_steps([span for span, _ in steps]):
            raise MoneyError("steps")
        if not all([0 <= pay <= MOST_MONEY for _, pay in steps]):
            raise MoneyError("pay")


def _are_steps(spans):
    if len(spans) > FEE_STEPS or not all([0 <= span <= LONGEST_SPAN for span in spans]):
        return False
    return spans == sorted(set(spans))


def day_cost(fee, span):
    """Return the cost of an actor's day with a span, for what the fees tell of the actor."""
    cost, steps = fee
    for start, pay in steps:
        if start < span:
            cost = cost + pay * half_hours(span - start)
    return cost


def half_hours(minutes):
    """Return the least number of half hours that are together at least some minutes."""
    return (minutes + HALF_HOUR - 1) // HALF_HOUR


def cost_of(film, calendar, fees, day, rows):
    """Return the cost of the triples of hours: the sum over all actors who work."""
    cost = 0
    for actor, fee in enumerate(fees):
        figures = figures_of(film, calendar, day, rows, actor, NOT_WORKED)
        if figures is not None:
            cost = cost + day_cost(fee, figures[SPAN])
    return cost
