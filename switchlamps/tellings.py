"""What can be told of a house: presses that bring a wish, or lamps that show that none does."""

from switchlamps.errors import BadLamps, NoSwitch
from switchlamps.houses import House, are_lamps, is_number, is_press, turned_by


class Answer:
    pass


class Press(Answer):
    def __init__(self, press):
        # The list stays the asker's, who may change it later; the answer must not change with it.
        self.press = list(press)

    def brings(self, house, state, wish, asked):
        if not is_press(house, self.press):
            return False
        behind = state ^ turned_by(house, self.press)
        return ((behind ^ wish) & asked) == 0


class Even(Answer):
    def __init__(self, lamps):
        self.lamps = lamps

    def bars(self, house, state, wish, asked):
        if not is_number(self.lamps) or (self.lamps & asked) != self.lamps:
            return False
        for turned in house.switches():
            if is_odd(self.lamps & turned):
                return False
        # Each press turns an even number of these lamps, so an odd number of wrong ones never comes down to none.
        return is_odd(self.lamps & (state ^ wish))


def is_odd(lamps):
    odd = False
    while lamps > 0:
        # One lamp fewer: the lowest of them is taken away.
        lamps = lamps & (lamps - 1)
        odd = not odd
    return odd


def refuse_wrong_lamps(house, state, wish, asked):
    for lamps in (state, wish, asked):
        if not are_lamps(house.lamps, lamps):
            raise BadLamps("state, wish and asked lamps are each some lamps of the house")


def presses_of(house):
    found = [[]]
    for at in range(len(house.switches())):
        found = found + [press + [at] for press in found]
    return sorted(found)


def all_presses(house, state, wish, asked):
    refuse_wrong_lamps(house, state, wish, asked)
    return [press for press in presses_of(house) if Press(press).brings(house, state, wish, asked)]


def telling(house, state, wish, asked):
    found = all_presses(house, state, wish, asked)
    if len(found) > 0:
        return Press(min(found, key=len))
    # Where no press brings the wish there are always some of the asked lamps that show it; no others need a look.
    return Even(min([lamps for lamps in range(asked + 1) if Even(lamps).bars(house, state, wish, asked)]))


def quiet(house):
    return [press for press in presses_of(house) if turned_by(house, press) == 0]


def enough(house):
    kept = []
    ways = [0]
    for at, turned in enumerate(house.switches()):
        # A switch that the kept ones can stand in for adds no way; each other one doubles the ways.
        if turned not in ways:
            kept.append(at)
            ways = ways + [way ^ turned for way in ways]
    return kept


def rank(house):
    return len(enough(house))


def done_by(house, at):
    switches = house.switches()
    if not is_number(at) or not 0 <= at < len(switches):
        raise NoSwitch("the house has no such switch")
    turned = switches.pop(at)
    every_lamp = (1 << house.lamps) - 1
    # What the switch does to dark lamps is a wish, and the house without the switch is asked for it.
    told = telling(House(house.lamps, switches), 0, turned, every_lamp)
    if isinstance(told, Even):
        return told
    # In the house without the switch those behind it are counted one lower.
    return Press([other if other < at else other + 1 for other in told.press])


def worst(house):
    fewest = {}
    for press in presses_of(house):
        turned = turned_by(house, press)
        fewest[turned] = min(len(press), fewest.get(turned, len(press)))
    most = max(fewest.values())
    return (min([lamps for lamps in fewest if fewest[lamps] == most]), most)
