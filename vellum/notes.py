"""The notes of a collation, and the collation out of its notes."""

from vellum.errors import NoNotes


# The rows are walked rising, and a dict keeps the order in which its keys came:
# so the readings stand in the order of their first rows.
def readings_of(column):
    readings = {}
    for row, entry in enumerate(column):
        if entry != column[0]:
            readings[entry] = readings.get(entry, ()) + (row,)
    return tuple(readings.items())


def notes_of(collation):
    notes = [(number, readings_of(column)) for number, column in enumerate(collation)]
    return tuple([note for note in notes if len(note[1]) > 0])


def column_back(entry, many, readings):
    column = [entry] * many
    for reading, rows in readings:
        for row in rows:
            # Row 0 is the base's, of which no reading speaks.
            if not 0 < row < many:
                raise NoNotes("a row that is not there")
            column[row] = reading
    # Readings that are none of any column are not those of the one that they make.
    if len(readings) == 0 or readings_of(column) != readings:
        raise NoNotes("readings that are none of a column")
    return tuple(column)


def collation_back(entries, many, notes):
    columns = [(entry,) * many for entry in entries]
    ahead = -1
    for number, readings in notes:
        if not ahead < number < len(entries):
            raise NoNotes("a column that is not there, or not behind the one ahead of it")
        columns[number] = column_back(entries[number], many, readings)
        ahead = number
    return tuple(columns)
