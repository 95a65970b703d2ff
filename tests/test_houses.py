"""Promises 1 and 2, and the interface, switchlamps/houses.py."""

import itertools
import unittest

from looks import CHANGES, NO_LISTS, NO_NUMBERS, Refusals, by_counting, every_press
from switchlamps.errors import BadHouse, BadLamps, BadPress
from switchlamps.houses import House, pressed


class Making(unittest.TestCase):
    def test_the_fields_are_what_was_handed_in(self):
        for lamps, switches in (
            (1, [0]), (1, [1, 1, 0]), (3, [5, 2]), (4, [15, 0, 9, 9]), (10, [1023, 0, 512, 1]),
        ):
            with self.subTest(lamps=lamps, switches=switches):
                house = House(lamps, list(switches))
                self.assertEqual(house.lamps, lamps)
                self.assertIs(type(house.lamps), int)
                self.assertEqual(house.switches(), switches)
                self.assertIs(type(house.switches()), list)

    def test_every_number_of_lamps_with_none_and_all_of_them_turned(self):
        for lamps in range(1, 11):
            with self.subTest(lamps=lamps):
                house = House(lamps, [0, 2 ** lamps - 1])
                self.assertEqual(house.lamps, lamps)
                self.assertEqual(house.switches(), [0, 2 ** lamps - 1])

    def test_every_number_of_switches(self):
        for count in range(9):
            for lamps in (1, 10):
                with self.subTest(count=count, lamps=lamps):
                    self.assertEqual(House(lamps, [1] * count).switches(), [1] * count)

    def test_switches_keep_their_order(self):
        self.assertEqual(House(3, [7, 0, 3, 3, 1]).switches(), [7, 0, 3, 3, 1])

    def test_names_of_the_arguments(self):
        house = House(lamps=2, switches=[3])
        self.assertEqual(pressed(house=house, state=1, press=[0]), 2)


class HouseRefusals(Refusals):
    def test_lamps_beyond_the_bounds(self):
        for lamps in (0, 11, -1, 12, 100, -10, 10 ** 5000):
            self.refused(BadHouse, House, lamps, [])
            self.refused(BadHouse, House, lamps, [0])

    def test_lamps_of_another_kind(self):
        for lamps in NO_NUMBERS:
            with self.subTest(lamps=lamps):
                self.refused(BadHouse, House, lamps, [])
                self.refused(BadHouse, House, lamps, [0])

    def test_more_than_eight_switches(self):
        for count in (9, 10, 100):
            for lamps in (1, 10):
                self.refused(BadHouse, House, lamps, [0] * count)
                self.refused(BadHouse, House, lamps, [1] * count)

    def test_switches_that_are_no_list(self):
        for switches in NO_LISTS:
            with self.subTest(switches=switches):
                self.refused(BadHouse, House, 2, switches)

    def test_a_switch_that_turns_lamps_beyond_the_house(self):
        for lamps in range(1, 11):
            for wrong in (2 ** lamps, 2 ** lamps + 1, 2 ** (lamps + 1), -1, -2 ** lamps, 10 ** 5000):
                with self.subTest(lamps=lamps):
                    self.refused(BadHouse, House, lamps, [wrong])
                    self.refused(BadHouse, House, lamps, [wrong, 1])
                    self.refused(BadHouse, House, lamps, [0, wrong, 1])
                    self.refused(BadHouse, House, lamps, [0] * 7 + [wrong])

    def test_a_switch_of_another_kind(self):
        for wrong in NO_NUMBERS:
            with self.subTest(wrong=wrong):
                self.refused(BadHouse, House, 2, [wrong])
                self.refused(BadHouse, House, 2, [1, wrong])
                self.refused(BadHouse, House, 2, [wrong, 1])

    def test_both_wrong(self):
        self.refused(BadHouse, House, 0, None)
        self.refused(BadHouse, House, "2", [4])
        self.refused(BadHouse, House, True, (1,))

    def test_a_refused_list_is_as_it_was(self):
        for switches in ([4, 0], [0] * 9, [True]):
            before = list(switches)
            self.refused(BadHouse, House, 2, switches)
            self.assertEqual(repr(switches), repr(before))


class Pressing(unittest.TestCase):
    def test_a_press_of_none_one_and_several(self):
        house = House(4, [0b0011, 0b0110, 0b1100])
        self.assertEqual(pressed(house, 0b0101, []), 0b0101)
        self.assertEqual(pressed(house, 0b0101, [0]), 0b0110)
        self.assertEqual(pressed(house, 0b0101, [2]), 0b1001)
        self.assertEqual(pressed(house, 0b0101, [0, 1]), 0b0000)
        self.assertEqual(pressed(house, 0b0101, [0, 2]), 0b1010)
        self.assertEqual(pressed(house, 0b0101, [0, 1, 2]), 0b1100)

    def test_switches_that_turn_none_all_or_the_same_lamps(self):
        house = House(3, [0, 7, 5, 5, 5])
        for state in range(8):
            self.assertEqual(pressed(house, state, [0]), state)
            self.assertEqual(pressed(house, state, [1]), 7 - state)
            self.assertEqual(pressed(house, state, [2, 3]), state)
            self.assertEqual(pressed(house, state, [2, 3, 4]), pressed(house, state, [2]))
            self.assertEqual(pressed(house, state, [0, 1, 3, 4]), 7 - state)

    def test_no_lamps_and_all_lamps(self):
        house = House(10, [1023, 1, 512])
        self.assertEqual(pressed(house, 0, [0]), 1023)
        self.assertEqual(pressed(house, 1023, [0]), 0)
        self.assertEqual(pressed(house, 0, [0, 1, 2]), 510)
        self.assertEqual(pressed(house, 1023, [0, 1, 2]), 513)

    def test_one_lamp(self):
        house = House(1, [1, 0])
        self.assertEqual([pressed(house, 0, press) for press in ([], [0], [1], [0, 1])], [0, 1, 0, 1])
        self.assertEqual([pressed(house, 1, press) for press in ([], [0], [1], [0, 1])], [1, 0, 1, 0])

    def test_no_switches(self):
        for lamps in range(1, 11):
            house = House(lamps, [])
            for state in (0, 1, 2 ** lamps - 1):
                self.assertEqual(pressed(house, state, []), state)

    def test_all_eight_switches(self):
        self.assertEqual(pressed(House(10, [1, 2, 4, 8, 16, 32, 64, 128]), 768, [0, 1, 2, 3, 4, 5, 6, 7]), 1023)
        self.assertEqual(pressed(House(10, [1023] * 8), 341, [0, 1, 2, 3, 4, 5, 6, 7]), 341)
        self.assertEqual(pressed(House(1, [1] * 8), 1, [7]), 0)

    def test_all_small_houses(self):
        for lamps in (1, 2, 3):
            for count in range(4):
                presses = every_press(count)
                for switches in itertools.product(range(2 ** lamps), repeat=count):
                    house = House(lamps, list(switches))
                    for state, press in itertools.product(range(2 ** lamps), presses):
                        self.assertEqual(
                            pressed(house, state, press), by_counting(lamps, switches, state, press),
                            (lamps, switches, state, press),
                        )

    def test_every_press_of_large_houses(self):
        for lamps, switches in (
            (10, [1, 3, 6, 12, 24, 48, 96, 960]), (10, [1023, 0, 682, 341, 513, 513, 30, 992]),
            (7, [127, 64, 1, 0, 85, 42, 99, 99]),
        ):
            house = House(lamps, switches)
            for press in every_press(8):
                for state in (0, 1, 37, 2 ** lamps // 3, 2 ** (lamps - 1), 2 ** lamps - 1):
                    self.assertEqual(
                        pressed(house, state, press), by_counting(lamps, switches, state, press), (state, press),
                    )

    def test_the_answer_is_a_whole_number(self):
        for press in ([], [0]):
            self.assertIs(type(pressed(House(1, [1]), 1, press)), int)

    def test_the_same_is_answered_again(self):
        house = House(3, [3, 6])
        self.assertEqual([pressed(house, 1, [0, 1]) for turn in range(5)], [4] * 5)
        self.assertEqual((house.lamps, house.switches()), (3, [3, 6]))


class Own(unittest.TestCase):
    """Nothing that is handed in is changed or kept; each list given back is the asker's own."""

    def test_the_list_handed_in_is_changed_behind_the_making(self):
        for change in CHANGES:
            given = [3, 6]
            house = House(3, given)
            change(given)
            self.assertEqual(house.switches(), [3, 6])
            self.assertEqual(pressed(house, 0, [0, 1]), 5)

    def test_the_list_handed_in_is_not_changed(self):
        given = [6, 3, 0, 6]
        house = House(3, given)
        pressed(house, 5, [0, 2])
        self.assertEqual(given, [6, 3, 0, 6])

    def test_two_houses_of_one_list(self):
        given = [1, 2]
        first = House(2, given)
        given[0] = 3
        second = House(2, given)
        self.assertEqual((first.switches(), second.switches()), ([1, 2], [3, 2]))

    def test_the_list_given_back_is_changed(self):
        house = House(3, [3, 6])
        for change in CHANGES:
            change(house.switches())
            self.assertEqual(house.switches(), [3, 6])
            self.assertEqual(pressed(house, 0, [0, 1]), 5)

    def test_each_list_given_back_is_another(self):
        for switches in ([], [3, 6]):
            house = House(3, switches)
            one = house.switches()
            self.assertIsNot(one, house.switches())
            self.assertIsNot(one, switches)

    def test_a_change_of_the_house_list_reaches_no_earlier_one(self):
        house = House(3, [3, 6])
        earlier = house.switches()
        house.switches().append(1)
        self.assertEqual(earlier, [3, 6])

    def test_the_press_is_as_it_was(self):
        house = House(3, [3, 6, 7])
        for press in every_press(3):
            given = list(press)
            pressed(house, 1, given)
            self.assertEqual(given, press)

    def test_a_refused_press_is_as_it_was(self):
        for press in ([1, 0], [0, 0], [3], [0, 1, 9]):
            given = list(press)
            with self.assertRaises(BadPress):
                pressed(House(3, [3, 6, 7]), 1, given)
            self.assertEqual(given, press)


class PressRefusals(Refusals):
    def setUp(self):
        self.house = House(3, [3, 6, 7])

    def test_a_state_beyond_the_lamps(self):
        for lamps in range(1, 11):
            house = House(lamps, [1])
            for state in (2 ** lamps, 2 ** lamps + 1, 2 ** (lamps + 1), -1, -2 ** lamps, 10 ** 5000):
                for press in ([], [0]):
                    self.refused(BadLamps, pressed, house, state, press)

    def test_a_state_of_another_kind(self):
        for state in NO_NUMBERS:
            with self.subTest(state=state):
                self.refused(BadLamps, pressed, self.house, state, [])
                self.refused(BadLamps, pressed, self.house, state, [0])

    def test_a_press_that_does_not_rise(self):
        for press in ([1, 0], [2, 1], [2, 0], [0, 2, 1], [1, 0, 2], [2, 1, 0]):
            with self.subTest(press=press):
                self.refused(BadPress, pressed, self.house, 5, press)

    def test_a_press_that_names_a_switch_twice(self):
        for press in ([0, 0], [2, 2], [0, 1, 1], [0, 0, 1], [0, 1, 0], [0, 1, 2, 2], [1, 1, 1]):
            with self.subTest(press=press):
                self.refused(BadPress, pressed, self.house, 5, press)

    def test_a_press_of_a_switch_that_there_is_not(self):
        for press in ([3], [4], [-1], [-3], [0, 3], [0, 1, 2, 3], [-1, 0], [-1, 2], [1, 100], [10 ** 5000]):
            with self.subTest(size=len(press)):
                self.refused(BadPress, pressed, self.house, 5, press)

    def test_just_beyond_the_last_switch(self):
        for count in range(9):
            house = House(10, [1] * count)
            self.refused(BadPress, pressed, house, 0, [count])
            self.refused(BadPress, pressed, house, 0, list(range(count + 1)))
            self.refused(BadPress, pressed, house, 0, [-1])

    def test_a_press_that_is_no_list(self):
        for press in NO_LISTS:
            with self.subTest(press=press):
                self.refused(BadPress, pressed, self.house, 5, press)

    def test_a_press_with_what_is_no_number(self):
        for wrong in NO_NUMBERS:
            with self.subTest(wrong=wrong):
                self.refused(BadPress, pressed, self.house, 5, [wrong])
                self.refused(BadPress, pressed, self.house, 5, [0, wrong])
                self.refused(BadPress, pressed, self.house, 5, [wrong, 2])

    def test_both_wrong_is_bad_lamps(self):
        for state in (8, -1, True, False, None, "0", [0]):
            for press in ([1, 0], [0, 0], [3], [-1], None, (0,), [True], ["0"]):
                with self.subTest(state=state, press=press):
                    self.refused(BadLamps, pressed, self.house, state, press)

    def test_without_switches_each_but_the_empty_press(self):
        house = House(2, [])
        for press in ([0], [-1], [0, 1], ()):
            self.refused(BadPress, pressed, house, 0, press)


if __name__ == "__main__":
    unittest.main()
