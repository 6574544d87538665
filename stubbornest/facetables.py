"""Tables of a face: those that it takes from a bench, and those filled out to the bench."""

from stubbornest.benches import points_of
from stubbornest.changes import face_of
from stubbornest.charts import is_below
from stubbornest.refusals import require
from stubbornest.tablekinds import is_table
from stubbornest.tables import answers_of


def face_table(bench, slot, level, table):
    """The table of the face with the grades where the slot has the level."""
    face = face_of(bench, slot, level)
    require(is_table(bench, table), "table")
    grades = dict(answers_of(bench, table))
    return tuple([grades[point[:slot] + (level,) + point[slot:]] for point in points_of(face)])


def filled_out(bench, slot, level, table):
    """The table of the bench that has the face's grades, top above them, 0 elsewhere."""
    face = face_of(bench, slot, level)
    require(is_table(face, table), "table")
    grades = dict(answers_of(face, table))
    chart = bench[0][slot]
    # What stands outside of the face, by the level of the slot.
    outside = [bench[3] if is_below(chart, level, other) else 0 for other in range(len(chart[0]))]
    out = []
    for point in points_of(bench):
        other = point[slot]
        out.append(grades[point[:slot] + point[slot + 1:]] if other == level else outside[other])
    return tuple(out)
