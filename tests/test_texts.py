"""[10.1] numbers and fractions, [10.2] things, [10.3] scenes, [10.4] pictures, as texts; [0.2] of them."""

import copy
import inspect
import itertools

from scenes import FOUR, PATTERN, SIXTEEN, Case, all_told_of, level_things, sheet, stream, things_of, told_of

from sampleyard import texts as module
from sampleyard.corners import mixed
from sampleyard.errors import BadPattern, BadThing, BadTriangle, NoRow
from sampleyard.paint import paint
from sampleyard.texts import (
    fraction_word, picture_text, read_picture, read_scene, read_thing, scene_text, thing_text,
)
from sampleyard.things import Glass, Patterned, Plain, Shaded

THIRTY = 10 ** 30 - 1
CORNERS = "/ 0 0 1 1 / 8 0 1 1 / 0 8 1 1"
TRIANGLE = ((0, 0, 1, 1, ()), (8, 0, 1, 1, ()), (0, 8, 1, 1, ()))
TWO_VALUES = "/ 0 0 1 1 0 0 / 8 0 1 1 8 0 / 0 8 1 1 0 8"
NO_TEXTS = [None, 0, 1, True, False, 1.5, [], ["floor 8 8"], (), {}, b"floor 8 8"]
FRACTIONS = {
    "0": (0, 1), "1": (1, 1), "-3": (-3, 1), "10": (10, 1), "-100": (-100, 1), "1/2": (1, 2), "-1/2": (-1, 2),
    "-3/10": (-3, 10), "10/3": (10, 3), "7/2": (7, 2), "9" * 30: (THIRTY, 1), "-" + "9" * 30: (-THIRTY, 1),
    "1/" + "9" * 30: (1, THIRTY), "-1" + "0" * 29 + "/" + "9" * 30: (-(10 ** 29), THIRTY),
}
NO_FRACTIONS = [
    "", "-", "00", "01", "-01", "-0", "+1", "+0", "--1", "1-", "- 1", "2/4", "5/1", "0/1", "0/2", "-0/2", "1/-2",
    "1/+2",
    "-1/-2", "1/0", "0/0", "1/02", "01/2", "1/", "/2", "/", "1//2", "1/2/3", "6/4", "4/2", "-4/2", "1" + "0" * 30,
    "-1" + "0" * 30, "1/1" + "0" * 30, "0" * 30, "0" * 31, "1.0", "1,0", "1;0", "1e3", "1_000", "0x1", "a", "one", "1a",
    "a1", "None", "1 /2", "1/ 2", "1\n", "\n1", "1/2\n", "1/\n2", "-\n1", "(1, 2)", "'1'",
]


def figures_of(number):
    """the figures of a number of any size, found one by one"""
    found = ""
    while number >= 10:
        found = "0123456789"[number % 10] + found
        number //= 10
    return "0123456789"[number] + found


class Fractions(Case):
    def test_written(self):
        for text, fraction in FRACTIONS.items():
            self.assertEqual(fraction_word(fraction), text)

    def test_written_and_read_again(self):
        for top, bottom in itertools.product(range(-12, 13), range(1, 13)):
            if module.is_fraction((top, bottom)):
                word = fraction_word((top, bottom))
                self.assertEqual(word, f"{top}/{bottom}" if bottom > 1 else f"{top}")
                self.assertEqual(read_picture(word), [[(top, bottom)]])

    def test_written_of_more_than_thirty_figures(self):
        for power in (29, 30, 31, 59, 60, 61, 119, 120, 121, 300):
            for number in (10 ** power - 1, 10 ** power, 10 ** power + 1, 3 ** power, 7 * 10 ** power + 10 ** 59):
                self.assertEqual(fraction_word((number, 1)), str(number))
                self.assertEqual(fraction_word((-number, 1)), "-" + str(number))
                self.assertEqual(fraction_word((-1, number + 1)), f"-1/{number + 1}")

    def test_written_of_some_thousand_figures(self):
        # Python by itself writes no number so long.
        self.assertEqual(fraction_word((10 ** 5000, 1)), "1" + "0" * 5000)
        self.assertEqual(fraction_word((1 - 10 ** 5000, 10 ** 4400)), "-" + "9" * 5000 + "/1" + "0" * 4400)
        self.assertEqual(fraction_word((3 ** 9100, 1)), figures_of(3 ** 9100))

    def test_read_wherever_a_fraction_stands(self):
        for word, fraction in FRACTIONS.items():
            self.assertEqual(read_thing(f"plain {word} {CORNERS}").colour, fraction)
            self.assertEqual(read_thing(f"glass {word} 1/2 {CORNERS}").colour, fraction)
            self.assertEqual(read_thing(f"patterned 0,{word} {TWO_VALUES}").pattern, [[(0, 1), fraction]])
            self.assertEqual(read_scene(f"floor 1 1\nground {word}\nspots 4,4")[2], fraction)
            self.assertEqual(read_picture(f"0 {word}"), [[(0, 1), fraction]])

    def test_nothing_else_is_read(self):
        for word in NO_FRACTIONS:
            for row in (
                f"plain {word} {CORNERS}", f"glass {word} 1/2 {CORNERS}", f"glass 1/2 {word} {CORNERS}",
                f"patterned {word} {TWO_VALUES}", f"patterned 0;{word} {TWO_VALUES}",
            ):
                if word not in ("1,0", "1;0") or "patterned" not in row:
                    self.assertEqual(self.assertRefused(NoRow, read_thing, row).at, 0)
            if "\n" not in word:
                error = self.assertRefused(NoRow, read_scene, f"floor 1 1\nground {word}\nspots 4,4")
                self.assertEqual(error.at, 1)
                self.assertEqual(self.assertRefused(NoRow, read_picture, f"1\n{word}\n1").at, 1)

    def test_whole_numbers_where_they_stand(self):
        for word in [word for word in NO_FRACTIONS + ["1/2", "-1/2"] if "\n" not in word]:
            for place in range(4):
                numbers = ["0", "0", "1", "1"]
                numbers[place] = word
                row = f"plain 1 / {' '.join(numbers)} / 8 0 1 1 / 0 8 1 1"
                self.assertEqual(self.assertRefused(NoRow, read_thing, row).at, 0, row)
            row = f"shaded / 0 0 1 1 0 / 8 0 1 1 {word} / 0 8 1 1 1"
            self.assertEqual(self.assertRefused(NoRow, read_thing, row).at, 0, row)
            for row in (f"floor {word} 8", f"floor 8 {word}"):
                self.assertEqual(self.assertRefused(NoRow, read_scene, f"{row}\nground 0\nspots 4,4").at, 0, row)
            for row in (f"spots 4,{word}", f"spots {word},4", f"spots 4,4 1,{word}"):
                self.assertEqual(self.assertRefused(NoRow, read_scene, f"floor 8 8\nground 0\n{row}").at, 2, row)

    def test_thirty_figures_are_read(self):
        nines = "9" * 30
        row = f"shaded / -{nines} {nines} {nines} {nines} {nines} / 0 0 1 1 -{nines} / 1 0 1 1 0"
        self.assertEqual(read_thing(row).triangle[0], (-THIRTY, THIRTY, THIRTY, THIRTY, (THIRTY,)))
        self.assertEqual(thing_text(read_thing(row)), row)
        for place in range(1, 6):
            words = row.split(" ")
            words[1 + place] = words[1 + place].replace("9" * 30, "9" * 31)
            self.assertEqual(self.assertRefused(NoRow, read_thing, " ".join(words)).at, 0)


THINGS = {
    f"plain 1/2 {CORNERS}": Plain(TRIANGLE, (1, 2)),
    f"plain -3 {TWO_VALUES}": Plain(tuple([c[:4] + (c[:2],) for c in TRIANGLE]), (-3, 1)),
    "shaded / -1 2 3 4 5 / 6 -7 8 9 -10 / 11 12 13 14 0":
        Shaded(((-1, 2, 3, 4, (5,)), (6, -7, 8, 9, (-10,)), (11, 12, 13, 14, (0,)))),
    "shaded / 0 0 1 1 1 2 3 / 8 0 1 1 4 5 6 / 0 8 1 1 7 8 9":
        Shaded(((0, 0, 1, 1, (1, 2, 3)), (8, 0, 1, 1, (4, 5, 6)), (0, 8, 1, 1, (7, 8, 9)))),
    f"patterned 1,0;1/2,-3 {TWO_VALUES}": Patterned(tuple([c[:4] + (c[:2],) for c in TRIANGLE]), PATTERN),
    f"patterned 5 {TWO_VALUES}": Patterned(tuple([c[:4] + (c[:2],) for c in TRIANGLE]), [[(5, 1)]]),
    f"patterned 1;2;-3;4/5 {TWO_VALUES}":
        Patterned(tuple([c[:4] + (c[:2],) for c in TRIANGLE]), [[(1, 1)], [(2, 1)], [(-3, 1)], [(4, 5)]]),
    f"patterned 1,2 {TWO_VALUES}": Patterned(tuple([c[:4] + (c[:2],) for c in TRIANGLE]), [[(1, 1), (2, 1)]]),
    f"glass -1/2 1/3 {CORNERS}": Glass(TRIANGLE, (-1, 2), (1, 3)),
    f"glass 7 0 {CORNERS}": Glass(TRIANGLE, (7, 1), (0, 1)),
    f"glass 0 1 {CORNERS}": Glass(TRIANGLE, (0, 1), (1, 1)),
}


class Things(Case):
    def test_written(self):
        for row, thing in THINGS.items():
            self.assertEqual(thing_text(thing), row)

    def test_read(self):
        for row, thing in THINGS.items():
            self.assertEqual(told_of(read_thing(row)), told_of(thing))

    def test_there_and_back(self):
        for seed in range(6):
            for thing in things_of(seed) + level_things(seed):
                self.assertEqual(told_of(read_thing(thing_text(thing))), told_of(thing))

    def test_greatest_pattern(self):
        pattern = [[(row * 16 + place, 1) for place in range(16)] for row in range(16)]
        thing = Patterned(tuple([c[:4] + ((1, 2),) for c in TRIANGLE]), pattern)
        self.assertEqual(read_thing(thing_text(thing)).pattern, pattern)

    def test_numbers_of_many_figures_are_written(self):
        one = sheet((2, 3), ((1,), (2,), (3,)))
        far = tuple([mixed(corner, one[1], 10 ** 5000 + 1, 3 ** 70) for corner in one])
        words = thing_text(Shaded(far)).split(" ")
        numbers = [number for corner in far for number in corner[:4] + corner[4]]
        self.assertEqual(words[0], "shaded")
        self.assertEqual([word for word in words if word == "/"], ["/"] * 3)
        expected = [("-" if number < 0 else "") + figures_of(abs(number)) for number in numbers]
        self.assertEqual([word for word in words[1:] if word != "/"], expected)

    def test_no_text(self):
        for thing in NO_TEXTS:
            self.assertEqual(self.assertRefused(NoRow, read_thing, thing).at, 0)

    def test_other_forms(self):
        for row in (
            "", " ", "\n", "/", "plain", "plain 1", "shaded", f"{CORNERS}", f" {CORNERS}", f"plain {CORNERS}",
            f"plain 1 2 {CORNERS}", f"shaded 1 {CORNERS}", f"patterned {TWO_VALUES}", f"patterned 1 2 {TWO_VALUES}",
            f"glass {CORNERS}", f"glass 1 {CORNERS}", f"glass 1 1 1 {CORNERS}", f"Plain 1 {CORNERS}",
            f"thing 1 {CORNERS}", f"1 {CORNERS}", f"1 plain {CORNERS}", f"plain1 {CORNERS}", f"plain 1 {CORNERS} /",
            f"plain 1 / {CORNERS}", f"plain / 1 {CORNERS}", f"/ plain 1 {CORNERS}", "floor 8 8", "ground 0", "show",
            f"plain 1 {CORNERS.replace('/', ';')}", f"plain 1 {CORNERS.replace('/ ', '/')}",
        ):
            self.assertEqual(self.assertRefused(NoRow, read_thing, row).at, 0, row)

    def test_patterns_without_the_form(self):
        for word in (
            ",", ";", "1,", ",1", "1;", ";1", "1,,0", "1;;0", "1,0;", "1,0;,", "1,;0", "1,0; 1,0", "1.0", "1:0",
        ):
            self.assertEqual(self.assertRefused(NoRow, read_thing, f"patterned {word} {TWO_VALUES}").at, 0, word)

    def test_blanks_and_line_ends(self):
        for right in THINGS:
            for row in (right + " ", " " + right, right + "\n", "\n" + right, right.replace(" ", "  ", 1),
                        right.replace(" /", "  /", 1), right.replace("/ ", "/  ", 1), right.replace(" ", "\n", 1),
                        right.replace(" / ", "\n/ ", 1), right + "\n" + right, right.replace(" ", "\t", 1)):
                self.assertEqual(self.assertRefused(NoRow, read_thing, row).at, 0, row)

    def test_another_count_of_corners(self):
        for count in (0, 1, 2, 4, 5):
            row = " ".join(["plain 1"] + ["/ 0 0 1 1"] * count)
            self.assertEqual(self.assertRefused(NoRow, read_thing, row).at, 0, row)

    def test_a_corner_of_fewer_numbers_than_four(self):
        for place, count in itertools.product(range(3), range(4)):
            corners = ["/ 0 0 1 1", "/ 8 0 1 1", "/ 0 8 1 1"]
            corners[place] = " ".join(corners[place].split(" ")[:count + 1])
            for head in ("plain 1", "shaded", "patterned 1", "glass 1 1"):
                row = " ".join([head] + corners)
                self.assertEqual(self.assertRefused(NoRow, read_thing, row).at, 0, row)

    def test_no_triangles(self):
        for place in range(3):
            for wrong in ("/ 5 5 1 0", "/ 5 5 1 -1", "/ 5 5 0 1", "/ 5 5 -1 1", "/ 5 5 1 1 1", "/ 5 5 1 1 1 2 3"):
                corners = ["/ 0 0 1 1", "/ 8 0 1 1", "/ 0 8 1 1"]
                corners[place] = wrong
                for head in ("plain 1", "shaded", "patterned 1", "patterned 1,0,1", "glass 1 1", "glass 1 2"):
                    self.assertRefused(BadTriangle, read_thing, " ".join([head] + corners))
        for head in ("plain 1", "shaded", "patterned 1,0,1", "glass 1 -1"):
            self.assertRefused(BadTriangle, read_thing, " ".join([head] + ["/ 0 0 1 1 1 2 3 4"] * 3))

    def test_the_form_ahead_of_all_else(self):
        wrong = "/ 0 0 0 0 / 0 0 0 0 / 0 0 0 0 1"
        for head in ("plain 2/4", "plain", "patterned 1,", "glass 1 2/4", "glass 2", "shade"):
            self.assertEqual(self.assertRefused(NoRow, read_thing, f"{head} {wrong}").at, 0)
        self.assertEqual(self.assertRefused(NoRow, read_thing, "glass 1 2 / 0 0 0 0 / 0 0 0 0 / 0 0 0 x").at, 0)

    def test_no_things(self):
        for row in (
            f"shaded {CORNERS}", f"patterned 1 {CORNERS}", f"patterned 1,0,1 {CORNERS}", f"glass 1 2 {CORNERS}",
            f"glass 1 -1 {CORNERS}", f"glass 1 -1/2 {CORNERS}", f"glass 1 3/2 {CORNERS}",
            "patterned 1 / 0 0 1 1 0 / 8 0 1 1 8 / 0 8 1 1 0", "patterned 1;1;1 / 0 0 1 1 0 / 8 0 1 1 8 / 0 8 1 1 0",
        ):
            self.assertRefused(BadThing, read_thing, row)

    def test_no_patterns(self):
        for word in ("1,0,1", "1;0;1", "1,0;1", "1;1,0", "1,2;3,4;5,6", ";".join(["1"] * 32), ",".join(["1"] * 17)):
            self.assertRefused(BadPattern, read_thing, f"patterned {word} {TWO_VALUES}")

    def test_flat_triangles_are_read(self):
        row = "plain 1 / 4 4 1 1 / 4 4 1 1 / 4 4 1 1"
        self.assertEqual(thing_text(read_thing(row)), row)


def scene_of(seed):
    numbers = stream(seed)
    ground = [(0, 1), (1, 2), (-7, 3)][next(numbers) % 3]
    spots = [[(4, 4)], FOUR, SIXTEEN, SIXTEEN[::-1]][next(numbers) % 4]
    things = (things_of(seed, 3) + level_things(seed, 3))[:seed]
    return (1 + next(numbers) % 64, 1 + next(numbers) % 64, ground, list(spots), things)


def all_told_of_scene(scene):
    return scene[:4] + (all_told_of(scene[4]),)


EMPTY = "floor 8 8\nground 0\nspots 4,4"
WHOLE = EMPTY + "\n" + "\n".join(THINGS)


class Scenes(Case):
    def test_written(self):
        self.assertEqual(scene_text((8, 8, (0, 1), [(4, 4)], [])), EMPTY)
        self.assertEqual(scene_text((64, 1, (-1, 2), FOUR, [])), "floor 64 1\nground -1/2\nspots 2,2 6,2 2,6 6,6")
        self.assertEqual(scene_text((8, 8, (0, 1), [(4, 4)], list(THINGS.values()))), WHOLE)

    def test_read(self):
        told = read_scene(EMPTY)
        self.assertEqual(told, (8, 8, (0, 1), [(4, 4)], []))
        self.assertEqual([type(part) for part in told], [int, int, tuple, list, list])
        self.assertEqual(type(told), tuple)
        self.assertEqual(read_scene("floor 1 64\nground -1/2\nspots 7,1 1,7"), (1, 64, (-1, 2), [(7, 1), (1, 7)], []))
        self.assertEqual(all_told_of(read_scene(WHOLE)[4]), all_told_of(THINGS.values()))

    def test_there_and_back(self):
        for seed in range(9):
            scene = scene_of(seed)
            text = scene_text(scene)
            self.assertEqual(all_told_of_scene(read_scene(text)), all_told_of_scene(scene))
            self.assertEqual(scene_text(read_scene(text)), text)

    def test_numbers_beyond_a_million(self):
        big = 10 ** 29 + 7
        triangle = ((-big, big, big, 1, (big,)), (10 ** 6 + 1, 0, 1, big, (-big,)), (0, 1, big, big, (0,)))
        scene = (3, 4, (big, 3), [(1, 1)], [Shaded(triangle), Plain(triangle, (-big, 10 ** 29))])
        self.assertEqual(all_told_of_scene(read_scene(scene_text(scene))), all_told_of_scene(scene))

    def test_no_text(self):
        for thing in NO_TEXTS:
            self.assertEqual(self.assertRefused(NoRow, read_scene, thing).at, 0)

    def test_rows_that_lack(self):
        for text, at in (("", 0), ("floor 8 8", 1), ("floor 8 8\n", 1), ("floor 8 8\nground 0", 2),
                         ("floor 8 8\nground 0\n", 2), ("\n", 0), (" ", 0)):
            self.assertEqual(self.assertRefused(NoRow, read_scene, text).at, at, text)

    def test_nothing_stands_behind(self):
        rows = WHOLE.split("\n")
        for count in range(3, len(rows) + 1):
            text = "\n".join(rows[:count])
            self.assertEqual(len(read_scene(text)[4]), count - 3)
            self.assertEqual(self.assertRefused(NoRow, read_scene, text + "\n").at, count)
            self.assertEqual(self.assertRefused(NoRow, read_scene, text + "\n\n").at, count)
            self.assertEqual(self.assertRefused(NoRow, read_scene, text + " ").at, count - 1)
            self.assertEqual(self.assertRefused(NoRow, read_scene, "\n" + text).at, 0)
            self.assertEqual(self.assertRefused(NoRow, read_scene, " " + text).at, 0)
            self.assertEqual(self.assertRefused(NoRow, read_scene, text + "\n" + EMPTY).at, count)

    def test_number_of_a_wrong_row(self):
        rows = WHOLE.split("\n")
        for number in range(len(rows)):
            for wrong in ("", "x", rows[number] + " ", " " + rows[number], rows[number] + " x",
                          rows[number].replace(" ", "  ", 1), rows[number].replace(" ", "\t", 1)):
                for behind in (rows[number + 1:], [], ["x"], ["x"] * 9):
                    text = "\n".join(rows[:number] + [wrong] + behind)
                    self.assertEqual(self.assertRefused(NoRow, read_scene, text).at, number, text)

    def test_rows_in_another_order(self):
        floor, ground, spots = EMPTY.split("\n")
        thing = list(THINGS)[0]
        for rows, at in (
            ([ground, floor, spots], 0), ([floor, spots, ground], 1), ([floor, ground, ground, spots], 2),
            ([floor, floor, ground, spots], 1), ([floor, ground, thing, spots], 2),
            ([floor, ground, spots, thing, spots], 4), ([floor, ground, spots, ground], 3), ([thing], 0),
            ([floor, ground, spots, "show"], 3),
        ):
            self.assertEqual(self.assertRefused(NoRow, read_scene, "\n".join(rows)).at, at, rows)

    def test_floors_that_would_be_refused(self):
        for words in ("0 8", "8 0", "65 8", "8 65", "-1 8", "8 -1", "1000000 8", "8", "8 8 8", ""):
            for behind in ("ground 0\nspots 4,4", "x"):
                error = self.assertRefused(NoRow, read_scene, f"floor {words}\n{behind}")
                self.assertEqual(error.at, 0)
        self.assertEqual(self.assertRefused(NoRow, read_scene, "floor\nground 0\nspots 4,4").at, 0)
        for width, height in ((1, 1), (64, 64), (1, 64), (64, 1)):
            self.assertEqual(read_scene(f"floor {width} {height}\nground 0\nspots 4,4")[:2], (width, height))

    def test_grounds(self):
        for row in ("ground", "ground ", "ground 0 0", "ground 0,0", "Ground 0"):
            self.assertEqual(self.assertRefused(NoRow, read_scene, f"floor 8 8\n{row}\nspots 4,4").at, 1)

    def test_spots_that_would_be_refused(self):
        seventeen = " ".join([f"{k % 7 + 1},{k // 7 + 1}" for k in range(17)])
        for words in (
            "0,4", "4,0", "8,4", "4,8", "-1,4", "4,4 4,4", "1,2 2,1 1,2", seventeen, "4", "4,4,4", "4,4 4", "4;4",
            "4,4,", ",4", "4,", ",", "4, 4", "4 ,4", "4,4  2,2", "", "4,4 ", "(4,4)",
        ):
            error = self.assertRefused(NoRow, read_scene, f"floor 8 8\nground 0\nspots {words}")
            self.assertEqual(error.at, 2, words)
        self.assertEqual(self.assertRefused(NoRow, read_scene, "floor 8 8\nground 0\nspots").at, 2)
        sixteen = seventeen.rpartition(" ")[0]
        self.assertEqual(len(read_scene(f"floor 8 8\nground 0\nspots {sixteen}")[3]), 16)

    def test_things_that_would_be_refused(self):
        wrong = (
            f"shaded {CORNERS}", f"glass 1 2 {CORNERS}", f"patterned 1,0,1 {TWO_VALUES}", f"patterned 1 {CORNERS}",
            "plain 1 / 0 0 0 1 / 8 0 1 1 / 0 8 1 1", "plain 1 / 0 0 1 0 / 8 0 1 1 / 0 8 1 1",
            "plain 1 / 0 0 1 1 1 / 8 0 1 1 / 0 8 1 1", "plain 1 / 0 0 1 1 / 8 0 1 1", "plain 2/4 " + CORNERS,
        )
        rows = WHOLE.split("\n")
        for row, place in itertools.product(wrong, range(3, len(rows) + 1)):
            text = "\n".join(rows[:place] + [row] + rows[place:])
            self.assertEqual(self.assertRefused(NoRow, read_scene, text).at, place)

    def test_more_than_thirty_figures(self):
        for row in ("plain 1" + "0" * 30 + " " + CORNERS, "plain 1 / 1" + "0" * 30 + " 0 1 1 / 8 0 1 1 / 0 8 1 1"):
            self.assertEqual(self.assertRefused(NoRow, read_scene, f"{EMPTY}\n{row}").at, 3)


class Pictures(Case):
    def test_written(self):
        for rows, text in (
            ([[(0, 1)]], "0"), ([[(1, 2), (-3, 1)]], "1/2  -3"), ([[(0, 1), (1, 1)], [(2, 1), (3, 1)]], "0 1\n2 3"),
            ([[(0, 1)], [(-10, 3)], [(7, 1)]], "    0\n-10/3\n    7"),
            ([[(1, 1), (2, 1)], [(3, 1), (100, 1)]], "  1   2\n  3 100"),
            ([[(100, 1), (2, 1)], [(3, 1), (1, 1)]], "100   2\n  3   1"),
        ):
            self.assertEqual(picture_text(rows), text)
            self.assertEqual(read_picture(text), rows)

    def test_columns_as_wide_as_the_widest(self):
        for seed in range(4):
            rows = paint(things_of(seed), 7, 5, FOUR)
            text = picture_text(rows)
            widest = max([len(fraction_word(fraction)) for row in rows for fraction in row])
            self.assertEqual([len(line) for line in text.split("\n")], [7 * widest + 6] * 5)
            for line, row in zip(text.split("\n"), rows):
                for column, fraction in enumerate(row):
                    start = column * (widest + 1)
                    self.assertEqual(line[start:start + widest].lstrip(" "), fraction_word(fraction))
                    self.assertEqual(line[start + widest:start + widest + 1], " " if column < 6 else "")

    def test_there_and_back(self):
        for seed in range(6):
            rows = paint(things_of(seed) + level_things(seed), 6, 4, SIXTEEN[:seed + 1], (1, 7))
            told = read_picture(picture_text(rows))
            self.assertEqual(told, rows)
            self.assertPicture(told, 6, 4)

    def test_of_any_size(self):
        for width, height in ((1, 1), (1, 64), (64, 1), (64, 64), (70, 3)):
            rows = [[(column - row, 1) for column in range(width)] for row in range(height)]
            self.assertEqual(read_picture(picture_text(rows)), rows)

    def test_numbers_of_many_figures(self):
        big = 10 ** 4999
        self.assertEqual(picture_text([[(big, 1), (1, big + 1)]]),
                         " " * 2 + "1" + "0" * 4999 + " 1/1" + "0" * 4998 + "1")
        self.assertEqual(self.assertRefused(NoRow, read_picture, picture_text([[(0, 1)], [(big, 1)]])).at, 1)
        self.assertEqual(read_picture("9" * 30), [[(THIRTY, 1)]])
        self.assertEqual(self.assertRefused(NoRow, read_picture, "1" + "0" * 30).at, 0)

    def test_blanks(self):
        expected = [[(1, 1), (-1, 2)], [(3, 1), (0, 1)]]
        for text in (
            "1 -1/2\n3 0", "  1   -1/2\n3 0", "1 -1/2  \n3 0   ", " 1 -1/2 \n 3     0 ", "   1 -1/2\n   3    0",
            "1 -1/2 \n  3 0",
        ):
            self.assertEqual(read_picture(text), expected)

    def test_no_text(self):
        for thing in NO_TEXTS:
            self.assertEqual(self.assertRefused(NoRow, read_picture, thing).at, 0)

    def test_rows_without_fractions(self):
        for text, at in (
            ("", 0), (" ", 0), ("   ", 0), ("\n", 0), ("1\n", 1), ("1\n ", 1), ("1\n\n1", 1), ("1 2\n   \n1 2", 1),
            ("\n1", 0), ("1\n2\n3\n", 3), ("1\n2\n3\n\n", 3),
        ):
            self.assertEqual(self.assertRefused(NoRow, read_picture, text).at, at, text)

    def test_another_count(self):
        for text, at in (
            ("1 2\n1", 1), ("1\n1 2", 1), ("1 2\n1 2\n1 2 3", 2), ("1 2\n1\n1 2 x", 1), ("1 2\n1 2 3\n1", 1),
            ("1 2 3\n1 2 3\n1 2", 2),
        ):
            self.assertEqual(self.assertRefused(NoRow, read_picture, text).at, at, text)

    def test_number_of_the_first_wrong_row(self):
        rows = ["1 2", "3 4", "5 6"]
        wrong_rows = ("1 x", "x 1", "1 2/4", "01 1", "1,2", "1 -0", "1\t2", "1 2\t")
        for number, wrong in itertools.product(range(3), wrong_rows):
            text = "\n".join(rows[:number] + [wrong] + rows[number + 1:])
            self.assertEqual(self.assertRefused(NoRow, read_picture, text).at, number, text)
            self.assertEqual(self.assertRefused(NoRow, read_picture, text + "\nx").at, number, text)


class HandedIn(Case):
    def test_nothing_is_changed(self):
        for seed in range(5):
            scene = scene_of(seed)
            before = copy.deepcopy(all_told_of_scene(scene))
            scene_text(scene)
            self.assertEqual(all_told_of_scene(scene), before)
            rows = paint(scene[4], 4, 4)
            kept = copy.deepcopy(rows)
            picture_text(rows)
            self.assertEqual(rows, kept)

    def test_scenes_told_are_new(self):
        first, second = read_scene(WHOLE), read_scene(WHOLE)
        self.assertEqual(len({id(part) for part in first[3:] + second[3:]}), 4)
        self.assertEqual(len({id(thing) for thing in first[4] + second[4]}), 2 * len(THINGS))
        patterns = [thing.pattern for thing in first[4] + second[4] if thing.word() == "patterned"]
        self.assertEqual(len({id(pattern) for pattern in patterns}), len(patterns))
        first[3].clear()
        first[4].pop()
        self.assertEqual(scene_text(second), WHOLE)
        self.assertEqual(scene_text(read_scene(WHOLE)), WHOLE)

    def test_pictures_told_are_new(self):
        first, second = read_picture("1 2\n3 4"), read_picture("1 2\n3 4")
        self.assertEqual(len({id(row) for row in first + second} | {id(first), id(second)}), 6)
        first[0].clear()
        first.pop()
        self.assertEqual(second, [[(1, 1), (2, 1)], [(3, 1), (4, 1)]])
        self.assertEqual(read_picture("1 2\n3 4"), second)

    def test_things_told_are_new(self):
        row = f"patterned 1,0;1/2,-3 {TWO_VALUES}"
        first, second = read_thing(row), read_thing(row)
        self.assertIsNot(first, second)
        self.assertIsNot(first.pattern, second.pattern)

    def test_a_scene_changed_behind_changes_no_text(self):
        scene = scene_of(4)
        text = scene_text(scene)
        kept = str(text)
        scene[3].append((9, 9))
        scene[4].clear()
        self.assertEqual(text, kept)


class Interface(Case):
    def test_names_and_arguments(self):
        for name, arguments in (
            ("fraction_word", "(fraction)"), ("thing_text", "(thing)"), ("scene_text", "(scene)"),
            ("picture_text", "(rows)"), ("read_thing", "(row)"), ("read_scene", "(text)"), ("read_picture", "(text)"),
        ):
            self.assertEqual(str(inspect.signature(getattr(module, name))), arguments)
