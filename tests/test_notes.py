"""Promise 7, and the interface, switchlamps/notes.py."""

import itertools
import unittest

from looks import HOUSES, Refusals, is_on, small_houses
from switchlamps.errors import BadText
from switchlamps.houses import House, pressed
from switchlamps.notes import read, written

# Of another kind than a text.
NO_TEXTS = (None, True, False, 0, 1, 1.0, b".", b".\n#", bytearray(b"."), [], ["."], [".", "#"], (".",), {".": "#"},
            object(), str, House(1, []))


def by_hand(lamps, switches):
    """The text of a house, sign by sign as promise 7 words it."""
    text = "." * lamps
    for turned in switches:
        text += "\n"
        for lamp in range(lamps):
            text += "#" if is_on(turned, lamp) else "."
    return text


def all_houses():
    for lamps in (1, 2, 3):
        for switches in small_houses(lamps, 3):
            yield lamps, switches
    yield from HOUSES


class Written(unittest.TestCase):
    def test_to_the_sign(self):
        self.assertEqual(written(House(1, [])), ".")
        self.assertEqual(written(House(1, [0])), ".\n.")
        self.assertEqual(written(House(1, [1])), ".\n#")
        self.assertEqual(written(House(10, [])), "..........")
        self.assertEqual(written(House(3, [1, 6])), "...\n#..\n.##")
        self.assertEqual(written(House(4, [0, 15, 8])), "....\n....\n####\n...#")
        self.assertEqual(written(House(10, [1, 1023])), "..........\n#.........\n##########")
        self.assertEqual(written(House(2, [1, 2, 3, 0, 1, 2, 3, 0])), "..\n#.\n.#\n##\n..\n#.\n.#\n##\n..")

    def test_many_houses_by_hand(self):
        for lamps, switches in all_houses():
            found = written(House(lamps, list(switches)))
            self.assertIs(type(found), str)
            self.assertEqual(found, by_hand(lamps, switches))

    def test_the_house_stays_as_it_is(self):
        house = House(3, [3, 6])
        written(house)
        self.assertEqual((house.lamps, house.switches()), (3, [3, 6]))

    def test_names_of_the_arguments(self):
        self.assertEqual(written(house=House(1, [])), ".")
        self.assertEqual(read(text=".").lamps, 1)


class Read(unittest.TestCase):
    def test_ordinary_texts(self):
        house = read("...\n#..\n.##")
        self.assertIs(type(house), House)
        self.assertEqual((house.lamps, house.switches()), (3, [1, 6]))
        self.assertEqual(pressed(house, 0, [0, 1]), 7)

    def test_what_is_written_is_read_as_the_same_house(self):
        for lamps, switches in all_houses():
            house = read(written(House(lamps, list(switches))))
            self.assertIs(type(house), House)
            self.assertEqual((house.lamps, house.switches()), (lamps, list(switches)))
            self.assertIs(type(house.lamps), int)

    def test_what_is_read_is_written_the_same(self):
        for lamps, switches in all_houses():
            text = by_hand(lamps, switches)
            self.assertEqual(written(read(text)), text)

    def test_every_number_of_lamps_and_switches(self):
        for lamps, count in itertools.product(range(1, 11), range(9)):
            house = read("\n".join(["." * lamps] + ["#" * lamps] * count))
            self.assertEqual((house.lamps, house.switches()), (lamps, [2 ** lamps - 1] * count))

    def test_each_reading_is_a_house_of_its_own(self):
        one, other = read(".\n#"), read(".\n#")
        self.assertIsNot(one, other)
        one.switches().append(1)
        self.assertEqual((one.switches(), other.switches()), ([1], [1]))


class BadTexts(Refusals):
    def test_empty_texts_and_rows(self):
        for text in ("", "\n", "\n\n", "\n.", "\n#", "\n.\n#"):
            with self.subTest(text=text):
                self.refused(BadText, read, text)

    def test_a_missing_or_further_row(self):
        for text in ("#", "##", "#.\n.#", "..\n\n##", ".\n\n#", "..\n#.\n\n.#", "..\n..\n\n..", "..\n#.\n"):
            with self.subTest(text=text):
                self.refused(BadText, read, text)

    def test_a_line_feed_before_or_behind(self):
        for lamps, switches in HOUSES:
            text = by_hand(lamps, switches)
            for wrong in (text + "\n", text + "\n\n", "\n" + text, text.replace("\n", "\n\n") + "\n"):
                self.refused(BadText, read, wrong)

    def test_a_row_too_short_or_too_long(self):
        for lamps, switches in HOUSES:
            rows = by_hand(lamps, switches).split("\n")
            for at in range(1, len(rows)):
                for row in (rows[at] + ".", rows[at] + "#", rows[at][1:], rows[at][:-1], "", "." * 11, "." * 100):
                    self.refused(BadText, read, "\n".join(rows[:at] + [row] + rows[at + 1:]))
        self.refused(BadText, read, "..\n#.\n#")
        self.refused(BadText, read, "..\n#\n#.#")
        self.refused(BadText, read, ".\n#.")
        self.refused(BadText, read, "...\n##\n.#")

    def test_another_sign_in_any_place(self):
        text = "...\n#.#\n.##"
        places = [at for at in range(len(text)) if text[at] != "\n"]
        others = [chr(code) for code in range(128) if chr(code) not in ".#\n"] + ["\x85", "\u2028", "\u2024", "\uff03"]
        for at, sign in itertools.product(places, others):
            self.refused(BadText, read, text[:at] + sign + text[at + 1:])

    def test_rows_parted_by_another_sign(self):
        for between in ("", " ", "\t", "\r", "\r\n", "\n\r", "\v", "\f", ",", "/", "\x1c", "\x85", "\u2028", "\\n"):
            with self.subTest(between=between):
                self.refused(BadText, read, between.join(["..", "#.", ".#"]))

    def test_blanks_around(self):
        for wrong in (" .\n#", ".\n# ", ". \n# ", " .\n #", ".\n#\t", "\t.\n#", ".\n#\r"):
            with self.subTest(wrong=wrong):
                self.refused(BadText, read, wrong)

    def test_more_than_ten_lamps(self):
        for lamps in (11, 12, 100, 5000):
            for count in (0, 1, 8):
                for sign in (".", "#"):
                    self.refused(BadText, read, "\n".join(["." * lamps] + [sign * lamps] * count))

    def test_more_than_eight_switches(self):
        for lamps in (1, 10):
            for count in (9, 10, 100):
                for sign in (".", "#"):
                    self.refused(BadText, read, "\n".join(["." * lamps] + [sign * lamps] * count))

    def test_a_first_row_that_is_not_of_dots_alone(self):
        for lamps in range(1, 11):
            for at in range(lamps):
                row = "." * at + "#" + "." * (lamps - at - 1)
                self.refused(BadText, read, row)
                self.refused(BadText, read, row + "\n" + "." * lamps)
                self.refused(BadText, read, row + "\n" + row)

    def test_what_is_no_text(self):
        for wrong in NO_TEXTS:
            with self.subTest(wrong=wrong):
                self.refused(BadText, read, wrong)

    def test_every_short_text(self):
        houses = {}
        for lamps, count in itertools.product(range(1, 6), range(4)):
            for switches in small_houses(min(lamps, 3), count):
                houses[by_hand(lamps, switches)] = (lamps, list(switches))
        for size in range(6):
            for signs in itertools.product(".#\nx", repeat=size):
                text = "".join(signs)
                if text in houses:
                    self.assertEqual((read(text).lamps, read(text).switches()), houses[text])
                else:
                    self.refused(BadText, read, text)


if __name__ == "__main__":
    unittest.main()
