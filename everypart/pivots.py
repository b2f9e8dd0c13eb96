"""Linear programs of sets of vertices, solved by pivots over integers.

A table tells fractions by integers over one unit, which changes from pivot to pivot: an entry k
stands for k / unit. It has a column for the value of each vertex, one for what each set lacks
of 1, and a last one for the bounds. Its last row tells what each column could still gain, as a
negative, and what is gained so far; each other row tells the column of its place in `named`.
"""


def equal_values(sets, weights):
    """Values of the vertices, times of the sets and a unit under them all, for sets that have each vertex.

    No set's values add up to more than the unit. The times of the sets with a vertex add up to its
    weight, in units, at least. The values, each as often as its vertex weighs, add up to what the times do.
    """
    named = list(range(len(weights), len(weights) + len(sets)))
    rows = first_rows(sets, weights)
    unit = 1
    column = first_to_gain(rows[-1])
    while column is not None:
        place = tightest_place(rows, named, column)
        rows = pivoted(rows, place, column, unit)
        unit = rows[place][column]
        named[place] = column
        column = first_to_gain(rows[-1])
    bounds = {name: rows[place][-1] for place, name in enumerate(named)}
    return [bounds.get(vertex, 0) for vertex in range(len(weights))], rows[-1][len(weights):-1], unit


def first_rows(sets, weights):
    """The table in which all values are 0, so that each set lacks all of 1."""
    rows = []
    for place, members in enumerate(sets):
        inside = [int(vertex in members) for vertex in range(len(weights))]
        rows.append(inside + [int(other == place) for other in range(len(sets))] + [1])
    return rows + [[-weight for weight in weights] + [0] * len(sets) + [0]]


def first_to_gain(row):
    """The first column that could gain something, or None."""
    # Taking always the first one, and of rows alike that of the first column, no table comes twice (Bland's rule).
    columns = [column for column, entry in enumerate(row[:-1]) if entry < 0]
    return columns[0] if columns else None


def tightest_place(rows, named, column):
    """The place of the row that bounds the column most; of like ones that of the first column."""
    best = None
    for _, place in sorted([(name, place) for place, name in enumerate(named)]):
        if rows[place][column] > 0 and (best is None or is_tighter(rows[place], rows[best], column)):
            best = place
    return best


def is_tighter(row, other, column):
    """Whether the row bounds the column more than the other row does."""
    return row[-1] * other[column] < other[-1] * row[column]


def pivoted(rows, place, column, unit):
    """The table when the row at the place tells the column; its entry there is the new unit."""
    fixed = rows[place]
    changed = [without_column(row, fixed, column, unit) for row in rows]
    return changed[:place] + [fixed] + changed[place + 1:]


def without_column(row, fixed, column, unit):
    """The row, over the new unit, with so much of the fixed one taken out that nothing is left in the column."""
    # Each entry is a determinant of the first table, so that nothing is lost by the division.
    return [(entry * fixed[column] - row[column] * taken) // unit for entry, taken in zip(row, fixed)]
