"""Promises 4, 5 and 6, and the interface, switchlamps/tellings.py: what is told of a house and of a switch."""

import unittest

from looks import CHANGES, HOUSES, NO_NUMBERS, Refusals, are_barring, small_houses, turned_by_presses
from switchlamps.errors import NoSwitch
from switchlamps.houses import House
from switchlamps.tellings import Even, Press, done_by, enough, quiet, rank, worst


def looked_at():
    """Houses of several sizes: all small ones, and some of each other size."""
    for lamps, most in ((1, 4), (2, 3), (3, 2)):
        for switches in small_houses(lamps, most):
            yield lamps, switches
    yield from HOUSES


def fewest_for_each(ways):
    """The fewest switches for each lamps that a press turns; the shorter presses stand first in the ways."""
    fewest = {}
    for press, turned in ways:
        fewest.setdefault(turned, len(press))
    return fewest


class Quiet(unittest.TestCase):
    def test_against_a_look_at_all_presses(self):
        for lamps, switches in looked_at():
            found = quiet(House(lamps, list(switches)))
            self.assertIs(type(found), list)
            self.assertEqual(
                found, sorted(press for press, turned in turned_by_presses(lamps, switches) if turned == 0),
                (lamps, switches),
            )

    def test_the_order_of_lists(self):
        self.assertEqual(quiet(House(2, [0, 0, 0])), [[], [0], [0, 1], [0, 1, 2], [0, 2], [1], [1, 2], [2]])
        self.assertEqual(quiet(House(3, [3, 6, 5, 0])), [[], [0, 1, 2], [0, 1, 2, 3], [3]])

    def test_the_edges(self):
        self.assertEqual(quiet(House(1, [])), [[]])
        self.assertEqual(quiet(House(10, [])), [[]])
        self.assertEqual(quiet(House(10, [1023])), [[]])
        self.assertEqual(quiet(House(10, [0])), [[], [0]])
        self.assertEqual(quiet(House(10, [1, 2, 4, 8, 16, 32, 64, 128])), [[]])
        self.assertEqual(len(quiet(House(10, [0] * 8))), 256)
        self.assertEqual(len(quiet(House(1, [1] * 8))), 128)


class Rank(unittest.TestCase):
    def test_against_a_look_at_all_presses(self):
        for lamps, switches in looked_at():
            found = rank(House(lamps, list(switches)))
            self.assertIs(type(found), int)
            ways = {turned for press, turned in turned_by_presses(lamps, switches)}
            self.assertEqual(2 ** found, len(ways), (lamps, switches))

    def test_the_edges(self):
        self.assertEqual(rank(House(1, [])), 0)
        self.assertEqual(rank(House(1, [0])), 0)
        self.assertEqual(rank(House(1, [1] * 8)), 1)
        self.assertEqual(rank(House(10, [0] * 8)), 0)
        self.assertEqual(rank(House(10, [1023] * 8)), 1)
        self.assertEqual(rank(House(10, [1, 2, 4, 8, 16, 32, 64, 128])), 8)
        self.assertEqual(rank(House(3, [3, 6, 5])), 2)


class Enough(unittest.TestCase):
    def test_against_a_look_at_all_presses(self):
        for lamps, switches in looked_at():
            found = enough(House(lamps, list(switches)))
            ways = turned_by_presses(lamps, switches)
            self.assertIs(type(found), list)
            self.assertIn(found, [press for press, turned in ways])
            # A press of the kept switches for whatever lamps any press turns.
            by_these = {turned for press, turned in ways if set(press) <= set(found)}
            self.assertEqual(by_these, {turned for press, turned in ways}, (lamps, switches, found))

    def test_as_few_as_can_be(self):
        for lamps, switches in looked_at():
            ways = turned_by_presses(lamps, switches)
            every_way = {turned for press, turned in ways}
            size = len(enough(House(lamps, list(switches))))
            self.assertEqual(2 ** size, len(every_way), (lamps, switches))
            if len(switches) <= 5:
                fewer = [press for press, turned in ways if len(press) < size]
                for chosen in fewer:
                    self.assertNotEqual({turned for press, turned in ways if set(press) <= set(chosen)}, every_way)

    def test_the_edges(self):
        self.assertEqual(enough(House(1, [])), [])
        self.assertEqual(enough(House(10, [0] * 8)), [])
        self.assertEqual(enough(House(10, [0, 0, 1023])), [2])
        self.assertEqual(enough(House(10, [1, 2, 4, 8, 16, 32, 64, 128])), [0, 1, 2, 3, 4, 5, 6, 7])
        self.assertEqual(len(enough(House(10, [1023] * 8))), 1)


class DoneBy(Refusals):
    def test_against_a_look_at_all_presses(self):
        kinds = {Press: 0, Even: 0}
        for lamps, switches in looked_at():
            house = House(lamps, list(switches))
            ways = turned_by_presses(lamps, switches)
            for at in range(len(switches)):
                told = done_by(house, at)
                words = (lamps, switches, at, vars(told))
                without = [press for press, turned in ways if at not in press and turned == switches[at]]
                kinds[type(told)] += 1
                if without:
                    self.assertIs(type(told), Press, words)
                    self.assertIs(type(told.press), list, words)
                    self.assertIn(told.press, without, words)
                    self.assertEqual(len(told.press), len(without[0]), words)
                else:
                    self.assertIs(type(told), Even, words)
                    self.assertIs(type(told.lamps), int, words)
                    self.assertTrue(0 <= told.lamps < 2 ** lamps, words)
                    others = switches[:at] + switches[at + 1:]
                    # An odd number of the lamps that the switch turns, and an even one for each other switch.
                    self.assertTrue(are_barring(told.lamps, others, 0, switches[at], 2 ** lamps - 1), words)
        self.assertGreater(min(kinds.values()), 100)

    def test_switches_before_and_behind_it(self):
        house = House(4, [1, 2, 3, 4, 8])
        self.assertEqual(done_by(house, 0).press, [1, 2])
        self.assertEqual(done_by(house, 1).press, [0, 2])
        self.assertEqual(done_by(house, 2).press, [0, 1])
        self.assertEqual(done_by(house, 3).lamps, 4)
        self.assertEqual(done_by(house, 4).lamps, 8)

    def test_the_fewest_switches(self):
        self.assertEqual(done_by(House(3, [7, 1, 2, 4, 7]), 0).press, [4])
        self.assertEqual(done_by(House(3, [7, 1, 2, 4, 7]), 4).press, [0])
        self.assertEqual(done_by(House(3, [1, 2, 4, 7]), 3).press, [0, 1, 2])

    def test_a_switch_that_turns_none(self):
        for count in range(8):
            self.assertEqual(done_by(House(10, [1] * count + [0]), count).press, [])
            self.assertEqual(done_by(House(10, [0] + [1] * count), 0).press, [])
        self.assertEqual(done_by(House(1, [0, 0]), 1).press, [])

    def test_a_switch_that_turns_all(self):
        told = done_by(House(10, [1023]), 0)
        self.assertTrue(are_barring(told.lamps, (), 0, 1023, 1023))
        self.assertEqual(done_by(House(10, [1023, 1023]), 0).press, [1])
        self.assertEqual(done_by(House(10, [1023, 1023]), 1).press, [0])

    def test_one_lamp_and_eight_switches(self):
        self.assertEqual(done_by(House(1, [1]), 0).lamps, 1)
        self.assertEqual(len(done_by(House(1, [1] * 8), 7).press), 1)
        for at in range(8):
            told = done_by(House(10, [1, 2, 4, 8, 16, 32, 64, 128]), at)
            self.assertEqual(told.lamps & 255, 2 ** at)

    def test_names_of_the_arguments(self):
        self.assertEqual(done_by(house=House(1, [1]), at=0).lamps, 1)

    def test_a_switch_that_there_is_not(self):
        for count in range(9):
            house = House(10, [1] * count)
            for at in (count, count + 1, -1, -count - 1, 100, 10 ** 5000, -10 ** 5000):
                self.refused(NoSwitch, done_by, house, at)

    def test_a_switch_of_another_kind(self):
        for at in NO_NUMBERS:
            with self.subTest(at=at):
                for switches in ([], [1], [1, 3], [1] * 8):
                    self.refused(NoSwitch, done_by, House(2, switches), at)


class Worst(unittest.TestCase):
    def test_against_a_look_at_all_presses(self):
        for lamps, switches in looked_at():
            found = worst(House(lamps, list(switches)))
            fewest = fewest_for_each(turned_by_presses(lamps, switches))
            most = max(fewest.values())
            least = min(turned for turned, size in fewest.items() if size == most)
            self.assertIs(type(found), tuple)
            self.assertEqual([type(value) for value in found], [int, int])
            self.assertEqual(found, (least, most), (lamps, switches))

    def test_the_least_number_of_several(self):
        self.assertEqual(worst(House(2, [2, 1, 3])), (1, 1))
        self.assertEqual(worst(House(3, [4, 2, 1, 7])), (3, 2))
        self.assertEqual(worst(House(3, [7, 4, 2, 1])), (3, 2))
        self.assertEqual(worst(House(10, [1023, 512])), (511, 2))

    def test_the_edges(self):
        self.assertEqual(worst(House(1, [])), (0, 0))
        self.assertEqual(worst(House(10, [])), (0, 0))
        self.assertEqual(worst(House(10, [0] * 8)), (0, 0))
        self.assertEqual(worst(House(1, [0, 1])), (1, 1))
        self.assertEqual(worst(House(10, [1023])), (1023, 1))
        self.assertEqual(worst(House(10, [1, 2, 4, 8, 16, 32, 64, 128])), (255, 8))


class Own(unittest.TestCase):
    """Nothing that is handed in is changed; each list given back, and what stands in a field, is the asker's own."""

    def test_a_change_of_a_given_list_changes_no_later_answer(self):
        house = House(3, [3, 6, 5, 0])
        for change in CHANGES:
            for press in quiet(house):
                change(press)
            change(quiet(house))
            change(enough(house))
            change(done_by(house, 0).press)
            self.assertEqual(quiet(house), [[], [0, 1, 2], [0, 1, 2, 3], [3]])
            self.assertEqual(len(enough(house)), 2)
            self.assertEqual(done_by(house, 0).press, [1, 2])
            self.assertEqual(house.switches(), [3, 6, 5, 0])

    def test_a_change_of_one_given_press_does_not_reach_another(self):
        found = quiet(House(2, [0, 0]))
        for press in list(found):
            press.append(9)
        self.assertEqual(found, [[9], [0, 9], [0, 1, 9], [1, 9]])

    def test_a_change_of_a_later_list_does_not_reach_an_earlier_one(self):
        house = House(2, [1, 1])
        earlier = quiet(house), enough(house), done_by(house, 0)
        for press in quiet(house):
            press.append(9)
        enough(house).append(9)
        done_by(house, 0).press.append(9)
        self.assertEqual((earlier[0], len(earlier[1]), earlier[2].press), ([[], [0, 1]], 1, [1]))

    def test_the_house_stays_as_it_is(self):
        house = House(3, [3, 6, 5])
        for at in range(3):
            done_by(house, at)
        quiet(house), rank(house), enough(house), worst(house)
        self.assertEqual((house.lamps, house.switches()), (3, [3, 6, 5]))

    def test_lists_handed_in_are_not_kept(self):
        given = [3, 6]
        house = House(3, given)
        given.append(0)
        self.assertEqual((quiet(house), rank(house), enough(house)), ([[]], 2, [0, 1]))
        given[0] = 5
        self.assertEqual(worst(house), (5, 2))
        self.assertTrue(are_barring(done_by(house, 0).lamps, (6,), 0, 3, 7))


if __name__ == "__main__":
    unittest.main()
