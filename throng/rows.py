"""Rows: texts of the signs 0, 1 and - (either); a letter is a row without -."""


def is_row(thing, width):
    return is_text_of(thing, width, "01-")


def is_letter(thing, width):
    return is_text_of(thing, width, "01")


def is_text_of(thing, width, signs):
    if not isinstance(thing, str) or len(thing) != width:
        return False
    for sign in thing:
        if sign not in signs:
            return False
    return True


def row_holds(row, letter):
    # A letter is a row in which it lies alone.
    return row_within(letter, row)


def row_meet(one, other):
    signs = []
    for mine, its in zip(one, other):
        if mine != "-" and its != "-" and mine != its:
            return None
        signs.append(its if mine == "-" else mine)
    return "".join(signs)


def row_within(one, other):
    for mine, its in zip(one, other):
        if its != "-" and its != mine:
            return False
    return True


def row_size(row):
    return doubled(1, row.count("-"))


def doubled(number, times):
    for step in range(times):
        number = number + number
    return number


def row_least(row):
    return row.replace("-", "0")


# The least letter of a row and the one with 1 at each -. Two overs part a letter
# at a place where they tell two signs, or where one tells a sign that the letter
# has not: so where they part some letter of the row, they part one of these.
def row_edges(row):
    return (row_least(row), row.replace("-", "1"))


def row_written(row, over):
    return "".join([mine if its == "-" else its for mine, its in zip(row, over)])


# Of the letters of a row those that lie in another one once the over is written
# on them: that one is within what comes of the row by the over.
def row_before(row, over, written):
    return "".join([its if sign == "-" else mine for mine, sign, its in zip(row, over, written)])


def row_less(one, other):
    if row_meet(one, other) is None:
        return [one]
    rows = []
    # What is left has the other's signs at all places walked by, so that
    # each row told is apart from those told behind it.
    left = one
    for place, sign in enumerate(other):
        if sign != "-" and left[place] == "-":
            rows.append(row_with(left, place, "0" if sign == "1" else "1"))
            left = row_with(left, place, sign)
    return rows


def row_with(row, place, sign):
    return row[:place] + sign + row[place + 1:]


def row_narrowed(row, places):
    return "".join([row[place] for place in places])


def row_spread(signs, places, width):
    row = ["-"] * width
    for sign, place in zip(signs, places):
        row[place] = sign
    return "".join(row)
