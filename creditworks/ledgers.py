"""A ledger: the steps that deeds took, their prices, and the credit that is left."""

from creditworks.binary import is_count
from creditworks.errors import NoNumber, Overdrawn


class Ledger:
    def __init__(self):
        self.rows = []

    # All is weighed ahead of the one change, so that a refused try enters nothing.
    def enter(self, word, steps, price=0, credit=None):
        ahead = self.credit()
        behind = ahead if credit is None else credit
        for number in (steps, price, behind):
            if not is_count(number):
                raise NoNumber("steps, price and credit are whole numbers from 0 on")
        over = steps + behind - ahead - price
        if over > 0:
            raise Overdrawn(over)
        self.rows.append((word, steps, price, ahead, behind))

    # The entries are tuples of plain values, so a new list is all that the asker needs.
    def entries(self):
        return list(self.rows)

    def paid(self):
        return sum([row[1] for row in self.rows])

    def due(self):
        return sum([row[2] for row in self.rows])

    def credit(self):
        if self.rows == []:
            return 0
        return self.rows[-1][4]

    def spare(self):
        return self.due() - self.paid() - self.credit()
