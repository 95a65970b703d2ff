"""Houses written as texts, and read from them."""

from switchlamps.errors import BadText
from switchlamps.houses import MOST_LAMPS, MOST_SWITCHES, House


def row_of(count, lamps):
    return "".join(["#" if (lamps >> lamp) & 1 == 1 else "." for lamp in range(count)])


def is_row(count, row):
    return len(row) == count and all([sign in (".", "#") for sign in row])


def lamps_of(row):
    return sum([1 << lamp for lamp, sign in enumerate(row) if sign == "#"])


def written(house):
    # The first row looks like a switch that turns none: it tells only how many lamps there are.
    return "\n".join([row_of(house.lamps, turned) for turned in [0] + house.switches()])


def read(text):
    if not isinstance(text, str):
        raise BadText("a house is read from a text")
    rows = text.split("\n")
    count = len(rows[0])
    if not 1 <= count <= MOST_LAMPS or len(rows) > 1 + MOST_SWITCHES:
        raise BadText("a house has 1 to 10 lamps and 0 to 8 switches")
    if rows[0] != row_of(count, 0):
        raise BadText("the first row is of dots alone")
    if not all([is_row(count, row) for row in rows]):
        raise BadText("each row has a dot or a # for each lamp")
    return House(count, [lamps_of(row) for row in rows[1:]])
