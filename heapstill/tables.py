"""Tables of whole numbers: products, measures, tables turned back, and rows shared out."""

from heapstill.errors import NoRings, NoRow


def column(table, at):
    return [line[at] for line in table]


def turned(table):
    return [column(table, at) for at in range(len(table))]


def unit_row(size, at):
    return [1 if place == at else 0 for place in range(size)]


def unit_table(size):
    return [unit_row(size, at) for at in range(size)]


def opposite(line):
    return [0 - entry for entry in line]


def scalar(one, other):
    return sum([x * y for x, y in zip(one, other)])


def product(one, other):
    columns = turned(other)
    return [line_by(line, columns) for line in one]


def line_by(line, columns):
    return [scalar(line, each) for each in columns]


def common(numbers):
    greatest = 0
    for number in numbers:
        rest = number
        while rest != 0:
            behind = greatest % rest
            greatest = rest
            rest = behind
    return abs(greatest)


def cleared(lines):
    """Lines led by a square table are taken off one another till each has the table's measure at its own place.

    Told are the lines and the measure. No fraction comes up: each number on the way is a measure of some rows and
    columns of the lines, so the division by the pivot before leaves no rest. Where the measure is 0 it stops early.
    """
    rest = lines
    before = 1
    for at in range(len(lines)):
        rest = with_pivot(rest, at)
        pivot_line = rest[at]
        if pivot_line[at] == 0:
            return (rest, 0)
        rest = [taken_off(line, pivot_line, at, before) for line in rest]
        rest[at] = pivot_line
        before = pivot_line[at]
    return (rest, before)


def with_pivot(lines, at):
    found = [row for row in range(at, len(lines)) if lines[row][at] != 0]
    if not found or found[0] == at:
        return lines
    swapped = list(lines)
    swapped[at] = lines[found[0]]
    # Two lines that change places turn the measure's sign; one of them taken from 0 turns it back.
    swapped[found[0]] = opposite(lines[at])
    return swapped


def taken_off(line, pivot_line, at, before):
    return [(pivot_line[at] * entry - line[at] * other) // before for entry, other in zip(line, pivot_line)]


def measure(table):
    return cleared(table)[1]


def cleared_whole(lines):
    told = cleared(lines)
    if told[1] == 0:
        raise NoRings("the table has measure 0")
    return told


def turned_back(table):
    """A table and the measure: the table handed in by the one told has the measure at i, i and 0 elsewhere."""
    size = len(table)
    told = cleared_whole([line + unit_row(size, at) for at, line in enumerate(table)])
    return ([line[size:] for line in told[0]], told[1])


def shared_out(table, row):
    size = len(table)
    if len(row) != size:
        raise NoRow("a row that is shared out is as long as the table")
    told = cleared_whole([line + [number] for line, number in zip(turned(table), row)])
    tops = column(told[0], size)
    part = common(tops + [told[1]])
    if told[1] < 0:
        part = 0 - part
    return ([top // part for top in tops], told[1] // part)
