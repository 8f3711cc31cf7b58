"""Rows of registers, the youngest register first."""


def start_row(game, registers):
    """Return the row with which the register game begins."""
    return (game.ceiling,) * registers


def raised(row, priority):
    """Return the row in which no number is less than the priority."""
    return tuple([max(number, priority) for number in row])


def emptied(row, which, priority):
    """Return the number in a register, and the row after this register was emptied."""
    numbers = tuple(row)
    return (numbers[which - 1], (priority,) + numbers[: which - 1] + numbers[which:])


def signal(which, value):
    """Return the signal of a round."""
    if which == 0:
        return 1
    return 2 * which + value % 2


def choices(row, priority):
    """Return what player 0 may do with a raised row, without what loses at once.

    Each item consists of the register (0 for none), the row after it, and the signal.
    """
    found = [(0, row, signal(0, 0))]
    for which in range(1, len(row) + 1):
        value, after = emptied(row, which, priority)
        if not loses(row, which):
            found.append((which, after, signal(which, value)))
    return found


def loses(row, which):
    """Tell whether player 0 loses at once by this choice (0 for none) with a raised row."""
    return which == len(row) and row[which - 1] % 2 == 1
