"""Promise 3, promises 1 and 2 over the answers, and the interface, switchlamps/tellings.py: answers and wishes."""

import itertools
import unittest

from looks import (
    CHANGES, HOUSES, NO_LISTS, NO_NUMBERS, Refusals, are_barring, bringing, by_counting, every_press, is_brought,
    small_houses, some_numbers,
)
from switchlamps import tellings
from switchlamps.errors import BadLamps
from switchlamps.houses import House
from switchlamps.tellings import Answer, Even, Press, all_presses, telling

# Lists of whole numbers that are no press of a house with three switches.
NO_PRESSES = (
    [1, 0], [2, 1], [0, 2, 1], [2, 1, 0], [0, 0], [2, 2], [0, 1, 1], [0, 0, 1], [0, 1, 0], [1, 1, 1], [0, 1, 2, 2],
    [3], [4], [0, 3], [0, 1, 2, 3], [1, 100], [10 ** 5000], [-1], [-3], [-1, 0], [-1, 2], [-3, -2, -1], [-10 ** 5000],
)


def wishes_of(lamps):
    """States, wishes and asked lamps of a larger house: the ends of each, and some between."""
    every = 2 ** lamps - 1
    ends = list(itertools.product((0, every), (0, every, 1), (0, every, every // 2)))
    drawn = some_numbers(lamps, 2 ** lamps, 30)
    return ends + [tuple(drawn[at:at + 3]) for at in range(0, 30, 3)] + [(at, 0, every) for at in drawn[:10]]


def sparse_asked(lamps):
    """Wishes of which few lamps are asked, so that a press often brings them."""
    return [(0, 2 ** lamps - 1, 2 ** one | 2 ** other) for one in range(lamps) for other in range(one, lamps)]


class Answers(unittest.TestCase):
    def test_press_and_even_stand_straight_under_answer(self):
        self.assertEqual(Press.__bases__, (Answer,))
        self.assertEqual(Even.__bases__, (Answer,))
        self.assertEqual(Answer.__bases__, (object,))

    def test_the_fields(self):
        for press in ([], [0], [0, 3, 7], [3, 0], [5, 5], [-1, 100], [10 ** 50]):
            self.assertEqual(Press(press).press, press)
            self.assertIs(type(Press(press).press), list)
        for lamps in (0, 1, 5, 1023, 1024, 10 ** 50):
            self.assertEqual(Even(lamps).lamps, lamps)

    def test_names_of_the_arguments(self):
        house = House(2, [3])
        self.assertIs(Press(press=[0]).brings(house=house, state=0, wish=3, asked=3), True)
        self.assertIs(Even(lamps=3).bars(house=house, state=0, wish=1, asked=3), True)
        self.assertEqual(telling(house=house, state=0, wish=3, asked=3).press, [0])
        self.assertEqual(all_presses(house=house, state=0, wish=3, asked=3), [[0]])

    def test_the_list_is_copied(self):
        house = House(2, [3, 1])
        for change in CHANGES:
            given = [0, 1]
            told = Press(given)
            self.assertIsNot(told.press, given)
            change(given)
            self.assertEqual(told.press, [0, 1])
            self.assertIs(told.brings(house, 0, 2, 3), True)

    def test_a_change_of_the_field_does_not_reach_the_list(self):
        for change in CHANGES:
            given = [0, 1]
            change(Press(given).press)
            self.assertEqual(given, [0, 1])

    def test_two_answers_of_one_list(self):
        given = [0]
        first, second = Press(given), Press(given)
        first.press.append(1)
        self.assertEqual((first.press, second.press), ([0, 1], [0]))


class Brings(unittest.TestCase):
    def test_ordinary_presses(self):
        house = House(4, [0b0011, 0b0110, 0b1100])
        self.assertIs(Press([0, 2]).brings(house, 0b0101, 0b1010, 0b1111), True)
        self.assertIs(Press([0, 1]).brings(house, 0b0101, 0b1010, 0b1111), False)
        self.assertIs(Press([0]).brings(house, 0b0101, 0b1010, 0b1111), False)
        self.assertIs(Press([0]).brings(house, 0b0101, 0b1010, 0b0011), True)
        self.assertIs(Press([]).brings(house, 0b0101, 0b1010, 0b0000), True)
        self.assertIs(Press([]).brings(house, 0b0101, 0b0101, 0b1111), True)

    def test_a_press_of_more_than_the_fewest_brings_too(self):
        house = House(2, [3, 1, 2])
        self.assertIs(Press([0]).brings(house, 0, 3, 3), True)
        self.assertIs(Press([1, 2]).brings(house, 0, 3, 3), True)
        self.assertIs(Press([0, 1, 2]).brings(house, 0, 3, 3), False)

    def test_all_small_houses(self):
        for lamps, most in ((1, 3), (2, 2)):
            for switches in small_houses(lamps, most):
                house = House(lamps, list(switches))
                for press in every_press(len(switches)):
                    told = Press(press)
                    for state, wish, asked in itertools.product(range(2 ** lamps), repeat=3):
                        behind = by_counting(lamps, switches, state, press)
                        self.assertIs(
                            told.brings(house, state, wish, asked), is_brought(lamps, behind, wish, asked),
                            (lamps, switches, press, state, wish, asked),
                        )

    def test_larger_houses(self):
        for lamps, switches in HOUSES:
            house = House(lamps, list(switches))
            for press in every_press(len(switches))[::7]:
                for state, wish, asked in wishes_of(lamps)[::3]:
                    behind = by_counting(lamps, switches, state, press)
                    for hoped in (wish, behind, behind ^ asked):
                        self.assertIs(
                            Press(press).brings(house, state, hoped, asked), is_brought(lamps, behind, hoped, asked),
                            (lamps, switches, press, state, hoped, asked),
                        )

    def test_what_is_no_press_of_the_house_brings_nothing(self):
        house = House(3, [0, 0, 0])
        for wrong in NO_PRESSES:
            with self.subTest(size=len(wrong)):
                for state, asked in ((0, 0), (5, 0), (5, 7), (0, 7)):
                    self.assertIs(Press(wrong).brings(house, state, state, asked), False)

    def test_just_beyond_the_last_switch(self):
        for count in range(9):
            house = House(10, [0] * count)
            self.assertIs(Press(list(range(count))).brings(house, 3, 3, 1023), True)
            self.assertIs(Press(list(range(count + 1))).brings(house, 3, 3, 1023), False)
            self.assertIs(Press([count]).brings(house, 3, 3, 1023), False)
            self.assertIs(Press([-1]).brings(house, 3, 3, 1023), False)

    def test_true_and_false_are_no_switches(self):
        house = House(1, [0, 0])
        for wrong in ([True], [False], [False, True], [0, True], [False, 1]):
            self.assertIs(Press(wrong).brings(house, 0, 0, 1), False)

    def test_a_press_of_one_house_is_none_of_another(self):
        told = Press([0, 2])
        self.assertIs(told.brings(House(2, [1, 0, 2]), 0, 3, 3), True)
        self.assertIs(told.brings(House(2, [1, 2]), 0, 3, 3), False)
        self.assertIs(told.brings(House(2, [1, 0, 2, 0]), 0, 3, 3), True)
        self.assertIs(told.brings(House(2, [1, 2, 0]), 0, 3, 3), False)

    def test_by_the_field_as_it_stands_then(self):
        house = House(2, [1, 2])
        told = Press([0])
        self.assertIs(told.brings(house, 0, 3, 3), False)
        told.press.append(1)
        self.assertIs(told.brings(house, 0, 3, 3), True)
        told.press.append(1)
        self.assertIs(told.brings(house, 0, 3, 3), False)
        told.press = [0, 1]
        self.assertIs(told.brings(house, 0, 3, 3), True)
        told.press.reverse()
        self.assertIs(told.brings(house, 0, 3, 3), False)
        told.press.clear()
        self.assertIs(told.brings(house, 0, 3, 3), False)
        self.assertIs(told.brings(house, 3, 3, 3), True)

    def test_a_field_that_is_no_list_is_no_press(self):
        for wrong in NO_LISTS:
            told = Press([])
            told.press = wrong
            self.assertIs(told.brings(House(2, [0, 0]), 1, 1, 3), False)

    def test_the_field_is_as_it_was(self):
        house = House(3, [3, 6, 7])
        for press in ([0, 2], [2, 0], [5], []):
            told = Press(press)
            told.brings(house, 1, 2, 7)
            self.assertEqual(told.press, press)
        self.assertEqual(house.switches(), [3, 6, 7])


class Bars(unittest.TestCase):
    def test_ordinary_lamps(self):
        house = House(4, [0b0011, 0b0110, 0b1100])
        self.assertIs(Even(0b1111).bars(house, 0b0101, 0b1011, 0b1111), True)
        self.assertIs(Even(0b1111).bars(house, 0b0101, 0b1010, 0b1111), False)
        self.assertIs(Even(0b0111).bars(house, 0b0101, 0b1011, 0b1111), False)
        self.assertIs(Even(0b1111).bars(house, 0b0101, 0b1011, 0b0111), False)
        self.assertIs(Even(0b0000).bars(house, 0b0101, 0b1011, 0b1111), False)

    def test_each_switch_is_looked_at(self):
        for wrong in range(8):
            switches = [0b11] * 8
            self.assertIs(Even(0b11).bars(House(3, switches), 0, 0b01, 0b11), True)
            switches[wrong] = 0b101
            self.assertIs(Even(0b11).bars(House(3, switches), 0, 0b01, 0b11), False)

    def test_all_small_houses(self):
        for lamps, most in ((1, 3), (2, 2)):
            for switches in small_houses(lamps, most):
                house = House(lamps, list(switches))
                for shown in range(2 ** (lamps + 1)):
                    told = Even(shown)
                    for state, wish, asked in itertools.product(range(2 ** lamps), repeat=3):
                        self.assertIs(
                            told.bars(house, state, wish, asked), are_barring(shown, switches, state, wish, asked),
                            (lamps, switches, shown, state, wish, asked),
                        )

    def test_larger_houses(self):
        for lamps, switches in HOUSES:
            house = House(lamps, list(switches))
            for shown in [0, 1, 2 ** lamps - 1] + some_numbers(5, 2 ** lamps, 12):
                for state, wish, asked in wishes_of(lamps)[::3]:
                    for about in (asked, asked | shown):
                        self.assertIs(
                            Even(shown).bars(house, state, wish, about),
                            are_barring(shown, switches, state, wish, about),
                            (lamps, switches, shown, state, wish, about),
                        )

    def test_lamps_that_are_not_asked(self):
        house = House(3, [])
        self.assertIs(Even(0b001).bars(house, 0, 0b111, 0b001), True)
        self.assertIs(Even(0b001).bars(house, 0, 0b111, 0b110), False)
        self.assertIs(Even(0b111).bars(house, 0, 0b111, 0b110), False)
        self.assertIs(Even(0b111).bars(house, 0, 0b111, 0b111), True)
        self.assertIs(Even(0b001).bars(house, 0, 0b111, 0), False)

    def test_lamps_beyond_the_house(self):
        for lamps in range(1, 11):
            house = House(lamps, [0])
            every = 2 ** lamps - 1
            self.assertIs(Even(1).bars(house, 0, 1, every), True)
            for beyond in (2 ** lamps, 2 ** (lamps + 1), 2 ** 5000):
                for shown in (beyond, beyond | 1):
                    for asked in (0, 1, every):
                        self.assertIs(Even(shown).bars(house, 0, 1, asked), False)

    def test_a_field_that_is_no_number_from_0_on(self):
        house = House(1, [])
        for wrong in NO_NUMBERS + (-1, -2):
            self.assertIs(Even(wrong).bars(house, 0, 1, 1), False)

    def test_by_the_field_as_it_stands_then(self):
        house = House(2, [3])
        told = Even(3)
        self.assertIs(told.bars(house, 0, 1, 3), True)
        told.lamps = 1
        self.assertIs(told.bars(house, 0, 1, 3), False)
        told.lamps = 7
        self.assertIs(told.bars(house, 0, 1, 3), False)
        told.lamps = 3
        self.assertIs(told.bars(house, 0, 1, 3), True)

    def test_of_another_house_state_wish_and_asked_lamps(self):
        told = Even(3)
        self.assertIs(told.bars(House(2, [3]), 2, 3, 3), True)
        self.assertIs(told.bars(House(2, [3, 1]), 2, 3, 3), False)
        self.assertIs(told.bars(House(2, [3]), 1, 3, 3), True)
        self.assertIs(told.bars(House(2, [3]), 0, 3, 3), False)
        self.assertIs(told.bars(House(2, [3]), 2, 2, 3), False)
        self.assertIs(told.bars(House(2, [3]), 2, 3, 2), False)

    def test_the_field_is_as_it_was(self):
        house = House(2, [3])
        told = Even(3)
        told.bars(house, 0, 1, 3)
        self.assertEqual((told.lamps, house.switches()), (3, [3]))


class NothingRefused(unittest.TestCase):
    """No refusal is told for brings and bars: lamps beyond the house's are answered with a truth."""

    def test_lamps_beyond_the_house(self):
        house = House(2, [3])
        for state, wish, asked in ((4, 0, 3), (0, 4, 3), (0, 0, 7), (4, 4, 4), (1024, 7, 2047)):
            self.assertIs(type(Press([0]).brings(house, state, wish, asked)), bool)
            self.assertIs(Press([1]).brings(house, state, wish, asked), False)
            self.assertIs(type(Even(3).bars(house, state, wish, asked)), bool)


class Tellings(unittest.TestCase):
    def held(self, lamps, switches, state, wish, asked):
        """The telling is one of the two that promise 3 allows here."""
        house = House(lamps, list(switches))
        told = telling(house, state, wish, asked)
        presses = bringing(lamps, switches, state, wish, asked)
        words = (lamps, switches, state, wish, asked, vars(told))
        if presses:
            self.assertIs(type(told), Press, words)
            self.assertIs(type(told.press), list, words)
            self.assertIn(told.press, presses, words)
            self.assertEqual(len(told.press), len(presses[0]), words)
            self.assertIs(told.brings(house, state, wish, asked), True, words)
        else:
            self.assertIs(type(told), Even, words)
            self.assertIs(type(told.lamps), int, words)
            self.assertLess(told.lamps, 2 ** lamps, words)
            self.assertTrue(are_barring(told.lamps, switches, state, wish, asked), words)
            self.assertIs(told.bars(house, state, wish, asked), True, words)
        found = all_presses(house, state, wish, asked)
        self.assertIs(type(found), list, words)
        self.assertEqual(found, sorted(presses), words)
        return told

    def test_all_small_houses(self):
        for lamps, most in ((1, 4), (2, 2), (3, 1)):
            for switches in small_houses(lamps, most):
                for state, wish, asked in itertools.product(range(2 ** lamps), repeat=3):
                    self.held(lamps, switches, state, wish, asked)

    def test_three_lamps_of_which_all_are_asked(self):
        for switches in small_houses(3, 3):
            for state, wish in ((0, 7), (0, 1), (5, 6), (2, 2), (7, 3)):
                self.held(3, switches, state, wish, 7)

    def test_larger_houses(self):
        kinds = {Press: 0, Even: 0}
        for lamps, switches in HOUSES:
            if len(switches) < 8:
                asking = wishes_of(lamps) + sparse_asked(lamps)[::5]
            else:
                asking = wishes_of(lamps)[::6] + sparse_asked(lamps)[::13]
            for state, wish, asked in asking:
                kinds[type(self.held(lamps, switches, state, wish, asked))] += 1
        self.assertGreater(min(kinds.values()), 100)

    def test_never_both(self):
        for lamps, most in ((1, 3), (2, 2)):
            for switches in small_houses(lamps, most):
                house = House(lamps, list(switches))
                for state, wish, asked in itertools.product(range(2 ** lamps), repeat=3):
                    brought = any(
                        Press(press).brings(house, state, wish, asked) for press in every_press(len(switches))
                    )
                    barred = any(Even(shown).bars(house, state, wish, asked) for shown in range(2 ** lamps))
                    self.assertNotEqual(brought, barred, (lamps, switches, state, wish, asked))

    def test_the_fewest_switches(self):
        self.assertEqual(telling(House(3, [1, 2, 4, 7]), 0, 7, 7).press, [3])
        self.assertEqual(telling(House(3, [7, 1, 2, 4]), 0, 7, 7).press, [0])
        self.assertIn(telling(House(3, [1, 2, 4, 7]), 0, 6, 7).press, ([0, 3], [1, 2]))
        self.assertEqual(len(telling(House(3, [4, 6, 5, 2, 1]), 0, 3, 3).press), 2)
        self.assertEqual(telling(House(10, [1, 2, 4, 8, 16, 32, 64, 127]), 127, 0, 1023).press, [7])

    def test_no_asked_lamps(self):
        for lamps, switches in HOUSES:
            house = House(lamps, list(switches))
            self.assertEqual(telling(house, 0, 2 ** lamps - 1, 0).press, [])
        self.assertEqual(all_presses(House(2, [1, 2]), 0, 3, 0), [[], [0], [0, 1], [1]])
        self.assertEqual(all_presses(House(1, []), 0, 1, 0), [[]])

    def test_no_lamps_to_turn(self):
        for lamps, switches in HOUSES:
            house = House(lamps, list(switches))
            for state in (0, 1, 2 ** lamps - 1):
                self.assertEqual(telling(house, state, state, 2 ** lamps - 1).press, [])
                self.assertEqual(telling(house, state, state ^ 1, 2 ** lamps - 2).press, [])

    def test_no_switches(self):
        for lamps in range(1, 11):
            house = House(lamps, [])
            every = 2 ** lamps - 1
            for lamp in range(lamps):
                told = telling(house, every, every ^ 2 ** lamp, every)
                self.assertTrue(are_barring(told.lamps, (), every, every ^ 2 ** lamp, every))
                self.assertEqual(all_presses(house, every, every ^ 2 ** lamp, every), [])
            self.assertEqual(all_presses(house, every, every, every), [[]])

    def test_one_lamp(self):
        self.assertEqual(telling(House(1, [0, 1]), 0, 1, 1).press, [1])
        self.assertEqual(telling(House(1, [0, 1]), 1, 0, 1).press, [1])
        self.assertEqual(telling(House(1, [0, 0]), 1, 0, 1).lamps, 1)
        self.assertEqual(all_presses(House(1, [0, 1]), 0, 1, 1), [[0, 1], [1]])

    def test_switches_that_turn_none_or_all(self):
        house = House(10, [0, 1023, 0])
        self.assertEqual(telling(house, 341, 682, 1023).press, [1])
        self.assertEqual(all_presses(house, 341, 682, 1023), [[0, 1], [0, 1, 2], [1], [1, 2]])
        self.held(10, (0, 1023, 0), 341, 683, 1023)
        self.held(10, (0, 1023, 0), 341, 683, 1022)

    def test_ten_lamps_and_eight_switches(self):
        switches = (1, 2, 4, 8, 16, 32, 64, 128)
        house = House(10, list(switches))
        self.assertEqual(telling(house, 0, 255, 1023).press, [0, 1, 2, 3, 4, 5, 6, 7])
        self.assertEqual(telling(house, 0, 1023, 255).press, [0, 1, 2, 3, 4, 5, 6, 7])
        self.assertEqual(telling(house, 0, 512, 1023).lamps, 512)
        self.assertEqual(all_presses(house, 0, 255, 1023), [[0, 1, 2, 3, 4, 5, 6, 7]])
        self.assertEqual(all_presses(house, 0, 512, 1023), [])
        self.assertEqual(all_presses(house, 0, 512, 512 - 1), [[]])
        self.assertEqual(len(all_presses(house, 0, 1, 1)), 128)
        self.assertEqual(all_presses(house, 0, 512, 256), sorted(every_press(8)))

    def test_the_order_of_lists(self):
        self.assertEqual(
            all_presses(House(1, [0, 0, 0]), 1, 1, 1),
            [[], [0], [0, 1], [0, 1, 2], [0, 2], [1], [1, 2], [2]],
        )

    def test_an_answers_own_word_of_other_wishes(self):
        for lamps, switches in HOUSES[5:14]:
            house = House(lamps, list(switches))
            for state, wish, asked in wishes_of(lamps)[::4]:
                told = telling(house, state, wish, asked)
                for other in wishes_of(lamps)[::5]:
                    if isinstance(told, Press):
                        behind = by_counting(lamps, switches, other[0], told.press)
                        self.assertIs(told.brings(house, *other), is_brought(lamps, behind, *other[1:]))
                    else:
                        self.assertIs(told.bars(house, *other), are_barring(told.lamps, switches, *other))


class Own(unittest.TestCase):
    """Nothing that is handed in is changed; each list given back, and what stands in a field, is the asker's own."""

    def test_a_change_of_a_given_list_changes_no_later_answer(self):
        house = House(3, [3, 6, 5, 0])
        for change in CHANGES:
            for press in all_presses(house, 0, 3, 7):
                change(press)
            change(all_presses(house, 0, 3, 7))
            change(telling(house, 0, 3, 7).press)
            self.assertEqual(all_presses(house, 0, 3, 7), [[0], [0, 3], [1, 2], [1, 2, 3]])
            self.assertEqual(telling(house, 0, 3, 7).press, [0])
            self.assertEqual(house.switches(), [3, 6, 5, 0])

    def test_a_change_of_one_given_press_does_not_reach_another(self):
        found = all_presses(House(2, [0, 0]), 0, 0, 3)
        for press in list(found):
            press.append(9)
        self.assertEqual(found, [[9], [0, 9], [0, 1, 9], [1, 9]])

    def test_a_change_of_a_later_list_does_not_reach_an_earlier_one(self):
        house = House(2, [0, 0])
        earlier = all_presses(house, 0, 0, 3)
        told = telling(house, 0, 0, 3)
        for press in all_presses(house, 0, 0, 3):
            press.append(9)
        telling(house, 0, 0, 3).press.append(9)
        self.assertEqual(earlier, [[], [0], [0, 1], [1]])
        self.assertEqual(told.press, [])

    def test_the_house_stays_as_it_is(self):
        house = House(3, [3, 6])
        for state, wish, asked in itertools.product(range(8), repeat=3):
            telling(house, state, wish, asked)
            all_presses(house, state, wish, asked)
        self.assertEqual((house.lamps, house.switches()), (3, [3, 6]))

    def test_the_same_is_answered_again(self):
        house = House(3, [3, 6])
        self.assertEqual([telling(house, 0, 5, 7).press for turn in range(3)], [[0, 1]] * 3)
        self.assertEqual([telling(house, 0, 1, 7).lamps for turn in range(3)], [7] * 3)

    def test_lists_handed_in_are_not_kept(self):
        given = [3, 6]
        house = House(3, given)
        given.append(1)
        self.assertEqual(telling(house, 0, 1, 7).lamps, 7)
        self.assertEqual(all_presses(house, 0, 1, 7), [])


class WrongLamps(Refusals):
    def each_refused(self, house, wrong, good):
        for call in (tellings.telling, tellings.all_presses):
            self.refused(BadLamps, call, house, wrong, good, good)
            self.refused(BadLamps, call, house, good, wrong, good)
            self.refused(BadLamps, call, house, good, good, wrong)
            self.refused(BadLamps, call, house, wrong, wrong, wrong)

    def test_beyond_the_lamps_of_the_house(self):
        for lamps in range(1, 11):
            for switches in ([], [0], [2 ** lamps - 1]):
                house = House(lamps, switches)
                for wrong in (2 ** lamps, 2 ** lamps + 1, 2 ** (lamps + 1), -1, -2 ** lamps, 10 ** 5000):
                    for good in (0, 2 ** lamps - 1):
                        self.each_refused(house, wrong, good)

    def test_of_another_kind(self):
        for wrong in NO_NUMBERS:
            with self.subTest(wrong=wrong):
                self.each_refused(House(3, [3, 6]), wrong, 0)
                self.each_refused(House(3, [3, 6]), wrong, 7)
                self.each_refused(House(1, []), wrong, 1)

    def test_the_last_lamps_are_not_refused(self):
        for lamps in range(1, 11):
            every = 2 ** lamps - 1
            self.assertEqual(all_presses(House(lamps, [every]), every, every, every), [[]])


if __name__ == "__main__":
    unittest.main()
