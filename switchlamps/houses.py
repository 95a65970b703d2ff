"""A house of lamps and switches, and the state behind a press."""

from switchlamps.errors import BadHouse, BadLamps, BadPress

MOST_LAMPS = 10
MOST_SWITCHES = 8


class House:
    def __init__(self, lamps, switches):
        if not is_number(lamps) or not 1 <= lamps <= MOST_LAMPS:
            raise BadHouse("a house has 1 to 10 lamps")
        if not isinstance(switches, list) or len(switches) > MOST_SWITCHES:
            raise BadHouse("a house has a list of 0 to 8 switches")
        if not all([are_lamps(lamps, turned) for turned in switches]):
            raise BadHouse("a switch turns some lamps of its house")
        self.lamps = lamps
        # The list stays the asker's, who may change it later; the house must not change with it.
        self.wiring = tuple(switches)

    def switches(self):
        return list(self.wiring)


def is_number(value):
    # Python counts True and False among the whole numbers; here they are none.
    return isinstance(value, int) and not isinstance(value, bool)


def are_lamps(count, value):
    return is_number(value) and 0 <= value < (1 << count)


def is_press(house, value):
    if not isinstance(value, list):
        return False
    before = -1
    for at in value:
        if not is_number(at) or at <= before:
            return False
        before = at
    # The switches rise, so the last one alone can lie beyond the house.
    return before < len(house.switches())


def turned_by(house, press):
    switches = house.switches()
    turned = 0
    for at in press:
        # A lamp that is turned twice stands as before, so only odd counts are left.
        turned = turned ^ switches[at]
    return turned


def pressed(house, state, press):
    if not are_lamps(house.lamps, state):
        raise BadLamps("a state is told by some lamps of the house")
    if not is_press(house, press):
        raise BadPress("a press is a list of switches of the house, rising")
    return state ^ turned_by(house, press)
