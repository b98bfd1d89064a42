"""Fields: the layout of letters, and rows told field by field."""

from throng.errors import Misfit, NoField, Twice
from throng.rows import is_row


def layout_width(layout):
    return sum([size for name, size in layout])


def field_span(layout, name):
    first = 0
    for field, size in layout:
        if field == name:
            return (first, first + size)
        first = first + size
    raise NoField(f"no field {name!r}")


def field_row(layout, parts):
    row = "-" * layout_width(layout)
    told = []
    for name, signs in parts:
        span = field_span(layout, name)
        if name in told:
            raise Twice(f"field {name!r} is told twice")
        if not is_row(signs, span[1] - span[0]):
            raise Misfit(f"no row of field {name!r}: {signs!r}")
        told.append(name)
        row = row[:span[0]] + signs + row[span[1]:]
    return row


def field_part(layout, name, row):
    span = field_span(layout, name)
    return row[span[0]:span[1]]
