"""Spots, and the four kinds of terms."""


def placed(spots, values):
    return tuple([stood_for(spot, values) for spot in spots])


def stood_for(spot, values):
    if spot[0] == "":
        return spot[1]
    return values[spot[0]] + spot[1]


class Term:
    pass


class Number(Term):
    def __init__(self, n):
        self.n = n

    def worth(self, values, cells):
        return self.n

    def reads(self):
        return []


class Value(Term):
    def __init__(self, name):
        self.name = name

    def worth(self, values, cells):
        return values[self.name]

    def reads(self):
        return []


class Cell(Term):
    def __init__(self, table, spots):
        self.table = table
        self.spots = spots

    def worth(self, values, cells):
        return cells(self.table, placed(self.spots, values))

    def reads(self):
        return [(self.table, self.spots)]


class Joined(Term):
    def __init__(self, sign, left, right):
        self.sign = sign
        self.left = left
        self.right = right

    def worth(self, values, cells):
        # Both parts are asked, even beside a factor of nought: each cell is
        # to be asked as often as it stands in the term.
        left = self.left.worth(values, cells)
        right = self.right.worth(values, cells)
        if self.sign == "+":
            return left + right
        if self.sign == "-":
            return left - right
        return left * right

    def reads(self):
        return self.left.reads() + self.right.reads()
