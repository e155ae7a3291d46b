"""The most that numbers from 0 on add up to where equations tie them, reckoned exactly, by integers alone."""


def is_tighter(one, other, column, ties):
    """Whether the one row lets the number of this column grow less, told at the first tie at which they differ."""
    return [one[tie] * other[column] for tie in ties] < [other[tie] * one[column] for tie in ties]


class Equations:
    """Equations, a row each: how often each number counts, what the equation itself is made of, what it adds up to.

    All entries are whole numbers of one unit. A row with a head is solved for the number of that column: no other
    row, nor the goal, has it. What is left of the goal tells how much more each number would add up to.
    """

    def __init__(self, columns, sums):
        many = len(sums)
        self.numbers = len(columns)
        self.unit = 1
        self.heads = [None] * many
        self.goal = [1] * len(columns) + [0] * (many + 1)
        self.rows = []
        for at, total in enumerate(sums):
            made_of = [1 if other == at else 0 for other in range(many)]
            self.rows.append([column[at] for column in columns] + made_of + [total])

    def without(self, row, solved, column):
        """The row without the number of this column, by the row that is solved for it."""
        worth, share, unit = solved[column], row[column], self.unit
        if share == 0 and worth == unit:
            return row
        # Each entry is a determinant of what was told: the division leaves nothing over.
        return [(worth * entry - share * other) // unit for entry, other in zip(row, solved)]

    def solve(self, at, column):
        """Solve the row for the number of this column, which stands in it."""
        solved = self.rows[at]
        if solved[column] < 0:
            solved = [-entry for entry in solved]
        self.rows = [solved if other == at else self.without(row, solved, column)
                     for other, row in enumerate(self.rows)]
        self.goal = self.without(self.goal, solved, column)
        self.heads[at] = column
        self.unit = solved[column]

    def begin(self, columns):
        """Solve as many rows as can be, for numbers of these columns ahead of others; the rest tell nothing more."""
        for column in list(columns) + list(range(self.numbers)):
            # A column that is at the head of a row stands in no other one.
            free = [at for at, head in enumerate(self.heads) if head is None and self.rows[at][column] != 0]
            if free:
                self.solve(free[0], column)
        self.rows = [row for head, row in zip(self.heads, self.rows) if head is not None]
        self.heads = [head for head in self.heads if head is not None]

    def improve(self):
        """Let the numbers grow, one after the other, until they add up to the most."""
        # Equal growth is told apart by what the rows held at first, so that no solution comes again.
        ties = [len(self.goal) - 1] + list(self.heads)
        gain = max(self.goal[:self.numbers])
        while gain > 0:
            column = self.goal.index(gain)
            best = None
            for at, row in enumerate(self.rows):
                if row[column] > 0 and (best is None or is_tighter(row, self.rows[best], column, ties)):
                    best = at
            self.solve(best, column)
            gain = max(self.goal[:self.numbers])

    def solution(self):
        """The pairs of a column and of its number, in units, that is above 0."""
        return [(head, row[-1]) for head, row in zip(self.heads, self.rows) if row[-1] > 0]

    def sum_worths(self):
        """In units, what each equation is worth: in each column these make 1 or more, with the sums the most."""
        return [-entry for entry in self.goal[self.numbers:-1]]
