"""Tables: tuples of rows, each a tuple of values, all as long."""


def table_shape(table):
    """The shape of a table."""
    return (len(table), len(table[0]))


def filled_table(shape, value):
    """The table of a shape that has a value at each place."""
    return ((value,) * shape[1],) * shape[0]


def table_of_one(value):
    """The table of a single value."""
    return ((value,),)


def spread_table(table, shape):
    """A table of a shape, or one of a single value with that at each place of the shape."""
    return filled_table(shape, table[0][0]) if table_shape(table) == (1, 1) else table


def values_in(table):
    """The list of the values of a table, row by row."""
    values = []
    for row in table:
        values.extend(row)
    return values


def table_in_rows(values, wide):
    """The table of a list of values, row by row, so many in each row."""
    return tuple([tuple(values[first:first + wide]) for first in range(0, len(values), wide)])


def turned_table(table):
    """A table with its rows as columns."""
    columns = []
    for place in range(len(table[0])):
        columns.append(tuple([row[place] for row in table]))
    return tuple(columns)
