"""Boards: the most that a goal can come to under bounds, exactly, and the price of each bound.

A board has a row for each bound and, last, one for the goal; a column for each amount that is sought, then one for
what each bound leaves spare, and, last, one for what the row's own amount is. No amount is ever below nought.
"""

from sharedways.fractions import NOUGHT, reduced


# Each number stands for itself divided by the board's under: so the board is exact, and all of it whole.
class Board:
    def __init__(self, goal, rows, bounds):
        spare = [[1 if each == number else 0 for each in range(len(rows))] for number in range(len(rows))]
        self.sought = len(goal)
        self.rows = [row + own + [bound] for row, own, bound in zip(rows, spare, bounds)]
        self.rows.append([-worth for worth in goal] + [0 for each in range(len(rows) + 1)])
        self.owners = [len(goal) + number for number in range(len(rows))]
        self.under = 1

    # The column's amount becomes the row's own, in the place of the one that was.
    def turn(self, chosen, column):
        kept = self.rows[chosen]
        if kept[column] < 0:
            # The under has to stay above nought, and a row says the same with all its signs turned.
            kept = [-number for number in kept]
        turned = [turned_row(row, kept, column, self.under) for row in self.rows]
        turned[chosen] = kept
        self.rows = turned
        self.owners[chosen] = column
        self.under = kept[column]


# The division leaves no rest: each number is a determinant of numbers that the board began with.
def turned_row(row, kept, column, under):
    return [(number * kept[column] - other * row[column]) // under for number, other in zip(row, kept)]


# The amounts that make the goal's sum greatest while no row's sum is more than its bound, and a price for each bound,
# none below nought: by the prices no amount's column comes to less than the goal has of it, and all bounds together
# come to the goal's sum. Goal and rows hold whole numbers, bounds are fractions. There must be amounts that keep all
# bounds, and the goal's sum must not grow without end.
def best(goal, rows, bounds):
    scale = common_under(bounds)
    board = Board(goal, rows, [bound[0] * (scale // bound[1]) for bound in bounds])
    keep_bounds(board)
    climb(board)
    return (amounts_of(board, scale), prices_of(board))


def common_under(fractions):
    found = 1
    for fraction in fractions:
        found = found * fraction[1]
    return found


# Here and in climb the first that will do is taken, by its column: so no board comes twice, and there is an end.
def keep_bounds(board):
    chosen = broken_row(board)
    while chosen is not None:
        board.turn(chosen, first_below_nought(board.rows[chosen][:-1]))
        chosen = broken_row(board)


def broken_row(board):
    broken = [number for number in range(len(board.owners)) if board.rows[number][-1] < 0]
    return min(broken, key=lambda number: board.owners[number], default=None)


def first_below_nought(numbers):
    for column, number in enumerate(numbers):
        if number < 0:
            return column
    return None


def climb(board):
    column = first_below_nought(board.rows[-1][:-1])
    while column is not None:
        board.turn(tightest_row(board, column), column)
        column = first_below_nought(board.rows[-1][:-1])


def tightest_row(board, column):
    chosen = None
    for number in range(len(board.owners)):
        if board.rows[number][column] > 0 and (chosen is None or is_tighter(board, column, number, chosen)):
            chosen = number
    return chosen


def is_tighter(board, column, one, other):
    row = board.rows[one]
    rival = board.rows[other]
    gap = row[-1] * rival[column] - rival[-1] * row[column]
    return gap < 0 or (gap == 0 and board.owners[one] < board.owners[other])


def amounts_of(board, scale):
    found = [NOUGHT for each in range(board.sought)]
    for number, column in enumerate(board.owners):
        if column < board.sought:
            found[column] = reduced(board.rows[number][-1], board.under * scale)
    return found


def prices_of(board):
    return [reduced(number, board.under) for number in board.rows[-1][board.sought:-1]]
