"""Weights and a mark that tell a ladder, or a trade that shows that there are none.

A trade takes some groups that are let by and as many that are not, so that no hand stands oftener in the former.
The greatest trade is sought in which the groups that are let by are taken at most once in all, where groups may
be taken in part, too. It is enough to take the least groups that are let by and the greatest that are not. Either
there is a trade of one; or there is none but that of nothing, and what each bound of the trade is then worth
tells a weight for each hand and the mark. The search is the simplex method with Bland's rule.
"""

from signright.hands import has_hand
from signright.ladders import stopping


class Table:
    """Bounds on how much is taken in each column, and the worth of what is taken.

    A row stands for each bound: how much of it each column uses up, and last how much there is. To the columns
    that are handed in comes one for what is left over of each bound. Each row is solved for one column; all
    other columns stand at 0. So that all numbers are whole ones, they are told in parts: so many parts are one.
    """

    def __init__(self, bounds, rooms, worths):
        self.rows = []
        self.solved = []
        for place, bound in enumerate(bounds):
            left_over = [int(other == place) for other in range(len(bounds))]
            self.rows.append(bound + left_over + [rooms[place]])
            self.solved.append(len(worths) + place)
        # What one more of each column would take away from the whole worth, which stands last.
        self.costs = [-worth for worth in worths] + [0 for bound in bounds] + [0]
        self.parts_of_one = 1

    def gainful_column(self):
        """The first column of which more would raise the whole worth, or None."""
        for column in range(len(self.costs) - 1):
            if self.costs[column] < 0:
                return column
        return None

    def is_tighter(self, row, other, column):
        """True where the row lets the column grow less than the other row does."""
        here = self.rows[row][-1] * self.rows[other][column]
        there = self.rows[other][-1] * self.rows[row][column]
        # Of rows as tight, the one with the first column: else the search might run in a ring.
        return here < there or (here == there and self.solved[row] < self.solved[other])

    def tightest_row(self, column):
        """The row that lets the column grow least."""
        tightest = None
        for row in range(len(self.rows)):
            if self.rows[row][column] > 0 and (tightest is None or self.is_tighter(row, tightest, column)):
                tightest = row
        return tightest

    def cleared(self, numbers, pivot, column):
        """The numbers of a row, with so much of the pivot row taken off that the column is 0 in it."""
        # The division comes out even: each number is a determinant of some of the bounds' first numbers.
        return [
            (number * pivot[column] - numbers[column] * above) // self.parts_of_one
            for number, above in zip(numbers, pivot)
        ]

    def solve(self, row, column):
        """Solves the row for the column."""
        pivot = self.rows[row]
        for other in range(len(self.rows)):
            if other != row:
                self.rows[other] = self.cleared(self.rows[other], pivot, column)
        self.costs = self.cleared(self.costs, pivot, column)
        self.solved[row] = column
        self.parts_of_one = pivot[column]

    def settle(self):
        """Raises the whole worth as far as the bounds let it."""
        column = self.gainful_column()
        while column is not None:
            self.solve(self.tightest_row(column), column)
            column = self.gainful_column()

    def taken(self, column):
        """How much is taken of the column, in parts."""
        if column not in self.solved:
            return 0
        return self.rows[self.solved.index(column)][-1]


def greatest_refused(count, ladder):
    """The groups of so many hands that are not let by, while each greater one is."""
    everyone = (1 << count) - 1
    return [everyone - group for group in stopping(count, ladder)]


def standings(groups, hand):
    """For each group 1 where the hand is in it, else 0."""
    return [int(has_hand(group, hand)) for group in groups]


def table_of(count, ones, others):
    """The table of the trades of groups that are let by for groups that are not."""
    bounds = []
    for hand in range(count):
        bounds.append(standings(ones, hand) + [-number for number in standings(others, hand)])
    # No more others than ones, and of ones one at most: so where others come to one, ones come to as many.
    bounds.append([-1 for one in ones] + [1 for other in others])
    bounds.append([1 for one in ones] + [0 for other in others])
    rooms = [0 for bound in bounds[:-1]] + [1]
    worths = [0 for one in ones] + [1 for other in others]
    return Table(bounds, rooms, worths)


def times_of(table, groups, start):
    """The groups that are taken, each with its times; their columns begin at start."""
    times = [(group, table.taken(start + place)) for place, group in enumerate(groups)]
    return [pair for pair in times if pair[1] > 0]


def weigh(count, ladder):
    """(True, (weights, mark)) that tell the ladder, or (False, (ones, others)), a trade."""
    others = greatest_refused(count, ladder)
    table = table_of(count, ladder, others)
    table.settle()
    if table.costs[-1] > 0:
        return (False, (times_of(table, ladder, 0), times_of(table, others, len(ladder))))
    # No group's column is gainful any more: what is let by weighs the mark at least, the others less than it.
    worths = table.costs[len(ladder) + len(others):]
    return (True, (worths[:count], worths[count]))
