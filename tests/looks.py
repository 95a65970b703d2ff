"""What the tests share: answers by counting and by a look at all presses, and things of a wrong kind."""

import itertools
import unittest

# Of another kind than a whole number.
NO_NUMBERS = (True, False, None, "1", "", 1.0, 0.0, [1], [], (1,), {}, b"1", 1j, object())
# Of another kind than a list.
NO_LISTS = (None, (), (0,), (0, 1), "", "01", 0, 1, True, False, {}, {0: 1}, {0}, range(1), iter([0]), b"\x00")

# Ways to change a list behind a call.
CHANGES = (lambda xs: xs.append(1), lambda xs: xs.clear(), lambda xs: xs.__setitem__(slice(0, 1), [7]))

# Houses of several sizes, with and without switches that the others can stand in for.
HOUSES = (
    (1, ()), (1, (0,)), (1, (1,)), (1, (1, 0, 1)), (1, (1,) * 8),
    (2, ()), (2, (3,)), (2, (2, 1, 3)), (2, (0, 0)), (2, (3, 3, 1)),
    (3, (3, 6)), (3, (4, 1)), (3, (3, 6, 5)), (3, (1, 2, 4, 7)), (3, (0, 7, 5, 5, 5)), (3, (6, 5, 3, 7)),
    (4, (3, 6, 12)), (4, (15, 0, 9, 9)), (4, (3, 6, 12, 9, 15)), (4, (8, 4, 2, 1, 15, 0)),
    (5, (17, 10, 4, 31, 27)), (5, (1, 3, 7, 15, 31, 16, 8)),
    (6, (63, 42, 21, 7, 56, 33, 12, 0)), (7, (127, 64, 1, 0, 85, 42, 99, 99)),
    (8, (1, 2, 4, 8, 16, 32, 64, 128)), (8, (255, 0, 15, 240, 51, 204, 85, 170)),
    (9, (257, 130, 68, 40, 16)), (9, (7, 56, 448, 73, 146, 292, 273, 84)),
    (10, ()), (10, (1023,)), (10, (0,) * 8), (10, (1023,) * 8), (10, (1, 3, 6, 12, 24, 48, 96, 960)),
    (10, (1023, 0, 682, 341, 513, 513, 30, 992)), (10, (512, 256, 128, 64, 32, 16, 8, 4)),
    (10, (3, 12, 48, 192, 768, 1023, 585, 438)),
)


class Refusals(unittest.TestCase):
    def refused(self, error, call, *args):
        """The call is refused with this error class, not with one under it."""
        with self.assertRaises(error) as caught:
            call(*args)
        self.assertIs(type(caught.exception), error)


def small_houses(lamps, most):
    """The lamps of every switch, for each house of so many lamps and at most so many switches."""
    for count in range(most + 1):
        yield from itertools.product(range(2 ** lamps), repeat=count)


def every_press(count):
    """Every rising list of switches below count, the shorter ones first."""
    found = []
    for size in range(count + 1):
        found.extend(list(press) for press in itertools.combinations(range(count), size))
    return found


def is_on(lamps, lamp):
    return (lamps // 2 ** lamp) % 2 == 1


def by_counting(lamps, switches, state, press):
    """The state behind a press, told lamp by lamp as promise 2 words it."""
    behind = 0
    for lamp in range(lamps):
        on = is_on(state, lamp)
        times = len([at for at in press if is_on(switches[at], lamp)])
        if times % 2 == 1:
            on = not on
        if on:
            behind += 2 ** lamp
    return behind


def turned_by_presses(lamps, switches):
    """Each press with the lamps that it turns, the shorter presses first."""
    return [(press, by_counting(lamps, switches, 0, press)) for press in every_press(len(switches))]


def is_brought(lamps, behind, wish, asked):
    """Whether each asked lamp is on just if it is by the wish."""
    return all(is_on(behind, lamp) == is_on(wish, lamp) for lamp in range(lamps) if is_on(asked, lamp))


def bringing(lamps, switches, state, wish, asked):
    """All presses that bring the wish, the shorter ones first."""
    return [
        press for press in every_press(len(switches))
        if is_brought(lamps, by_counting(lamps, switches, state, press), wish, asked)
    ]


def are_barring(shown, switches, state, wish, asked):
    """Whether these lamps show by promise 3 that no press brings the wish."""
    among = [lamp for lamp in range(shown.bit_length()) if is_on(shown, lamp)]
    if not all(is_on(asked, lamp) for lamp in among):
        return False
    for turned in switches:
        if len([lamp for lamp in among if is_on(turned, lamp)]) % 2 == 1:
            return False
    return len([lamp for lamp in among if is_on(state, lamp) != is_on(wish, lamp)]) % 2 == 1


def some_numbers(start, below, count):
    """So many numbers below a bound, always the same ones."""
    found = []
    value = start
    for turn in range(count):
        value = (value * 1103515245 + 12345) % 2 ** 31
        found.append((value // 2 ** 8) % below)
    return found
