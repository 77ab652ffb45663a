"""The rings of a table: tables that bring it to entries at i, i alone, each one dividing the next."""

from heapstill.tables import column, common, product, turned, turned_back, unit_table


def ring_tables(table):
    told = turned_back(table)
    found = right_tables(told[0], told[1])
    right = found[0]
    right_back = found[1]
    lengths = found[2]
    middle = [by_number(line, length) for line, length in zip(unit_table(len(table)), lengths)]
    # Left by the table by right is middle, so right tells the left tables too, and these divisions leave no rest.
    left = [shared(line, told[1]) for line in product(middle, product(right_back, told[0]))]
    left_back = turned([shared(line, length) for line, length in zip(turned(product(table, right)), lengths)])
    return (left, middle, right, left_back, right_back)


def right_tables(parts, whole):
    """Right, right_back and the middle entries of the table that, by parts, has whole at i, i and 0 elsewhere.

    The columns of right are found from the last one on. The greatest middle entry is what whole and parts leave when
    divided by all they have in common; then what the columns of parts generate is just what the table takes to
    multiples of that entry. A column of this kind that has no factor in common with the entry (what its numbers
    have in common else may go) is made the last one of right. Without it, in the coordinates that are left, all is as
    before, with one row of parts fewer. Numbers matter up to multiples of the entry alone, which keeps them short.
    """
    size = len(parts)
    right = unit_table(size)
    right_back = unit_table(size)
    lengths = [1] * size
    rest = parts
    length = abs(whole)
    for last in range(size - 1, -1, -1):
        part = in_common(rest, length)
        length = length // part
        # Each entry divides the next, so ahead of a 1 there are only such.
        if length == 1:
            break
        rest = [within(shared(line, part), length) for line in rest]
        lengths[last] = length
        steps = column_steps(free_column(rest, length), last)
        right = product(right, steps[1])
        right_back = product(steps[0], right_back)
        rest = product(steps[0], rest)
        rest[last] = [0] * size
    return (right, right_back, lengths)


def by_number(line, factor):
    return [factor * entry for entry in line]


def shared(line, number):
    return [entry // number for entry in line]


def within(line, length):
    return [entry % length for entry in line]


def in_common(lines, number):
    return common([common(line) for line in lines] + [number])


def free_column(lines, length):
    free = column(lines, 0)
    for at in range(1, len(lines)):
        free = mixed(free, column(lines, at), length)
    return free


def mixed(one, other, length):
    wanted = in_common([one, other], length)
    mix = one
    # For each prime factor of length at most one rest of the number of times is bad, so a good one is soon met.
    while in_common([mix], length) != wanted:
        mix = within([x + y for x, y in zip(mix, other)], length)
    return mix


def column_steps(free, last):
    """Two tables that undo one another; the first leaves the column 0 but at last.

    So the second one's column at last is the column divided by what its numbers have in common.
    """
    there = unit_table(len(free))
    back = unit_table(len(free))
    whole = free[last]
    for at in range(last):
        told = weighed(whole, free[at])
        if told[0] == 0:
            continue
        one = whole // told[0]
        other = free[at] // told[0]
        lines = (there[last], there[at], back[last], back[at])
        there[last] = added(told[1], lines[0], told[2], lines[1])
        there[at] = added(0 - other, lines[0], one, lines[1])
        # The table back is kept on its side, so that its columns are lines here.
        back[last] = added(one, lines[2], other, lines[3])
        back[at] = added(0 - told[2], lines[2], told[1], lines[3])
        whole = told[0]
    return (there, turned(back))


def added(factor, line, other_factor, other_line):
    return [factor * x + other_factor * y for x, y in zip(line, other_line)]


def weighed(one, other):
    """Of two numbers from 0 on what they have in common, and how many times each of them makes that."""
    now = [one, 1, 0]
    then = [other, 0, 1]
    while then[0] != 0:
        behind = added(1, now, 0 - now[0] // then[0], then)
        now = then
        then = behind
    return tuple(now)
