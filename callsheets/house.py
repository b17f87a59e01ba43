"""A house goes through a shooting day by day (points 1302 and 1303)."""

from callsheets.daybooks import book_walk, choice, keeps_all
from callsheets.dealings import need
from callsheets.errors import HouseError
from callsheets.stands import first_stand, is_through, may_choose, step
from callsheets.walks import Rows


class House:
    """A shooting by a day book, as far as it has come."""

    def __init__(self, case, book):
        self.case = case
        self.book = book
        self._course = []
        # The stands so far and the costs up to them; a break adds none.
        self._stands = [first_stand(case)]
        self._costs = [0]
        self._broken = None
        self._number_put = None

    def tonight(self):
        """Return the number of the sheet for the next day, or None."""
        if self._is_over():
            return None
        if self._number_put is not None:
            return self._number_put
        return choice(self.book, self._stands[-1])

    def _is_over(self):
        return self._broken is not None or is_through(self.case, self._stands[-1])

    def put(self, number):
        """Put another sheet for the next day."""
        if self._is_over():
            raise HouseError("over")
        if not 0 <= number < len(self.case[3][self._stands[-1][0]]):
            raise HouseError("sheet")
        self._number_put = number

    def shoot(self, nature):
        """Let a day pass, and return what the step returns."""
        if self._is_over():
            raise HouseError("over")
        number = self.tonight()
        if number is None:
            raise HouseError("none")
        stand = self._stands[-1]
        if not may_choose(self.case, stand, nature):
            raise HouseError("nature")
        told = step(self.case, stand, number, nature)
        if told[0] == "break":
            self._broken = told[1]
        else:
            self._stands.append(told[1])
            self._costs.append(self._costs[-1] + told[2])
        self._course.append((number, nature))
        self._number_put = None
        return told

    def state(self):
        """Return how the shooting stands: open, through or broken."""
        stand = self._stands[-1]
        if self._broken is not None:
            return ("broken", stand, self._broken)
        return ("through" if is_through(self.case, stand) else "open", stand, self._costs[-1])

    def back(self):
        """Take back the last day, and return whether there was one."""
        if not self._course:
            return False
        self._course.pop()
        if self._broken is None:
            self._stands.pop()
            self._costs.pop()
        self._broken = None
        self._number_put = None
        return True

    def days(self):
        """Return the tuple of the pairs of a sheet's number and a triple of the days so far."""
        return tuple(self._course)

    def surely(self):
        """Return whether the day book keeps everything from here on, whatever nature does."""
        if self._broken is not None:
            return False
        return keeps_all(self.case, book_walk(Rows(self.case), self.book, self._stands[-1]))

    def need(self):
        """Return the need of the stand, 0 if it is through, or None if the shooting is broken."""
        if self._broken is not None:
            return None
        return need(self.case, self._stands[-1])
