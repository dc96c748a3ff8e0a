"""[10.5] what a desk is told and asked, [10.6] what it refuses; [0.2] and [0.3] of it."""

import inspect
import itertools
from fractions import Fraction

from scenes import Case, colour_by_hand, level_things, picture_by_hand, seen_by_hand, stream, things_of

from sampleyard import desk as module
from sampleyard.desk import Desk
from sampleyard.errors import BadPattern, BadThing, BadTriangle, NoRow
from sampleyard.paint import doubtful, paint
from sampleyard.texts import fraction_word, picture_text, read_picture, read_scene, read_thing, scene_text, thing_text
from sampleyard.things import Plain
from sampleyard.tiles import paint_tiles
from sampleyard.walls import cut

NEW = "floor 8 8\nground 0\nspots 4,4"
BLANK = "\n".join(["0 0 0 0 0 0 0 0"] * 8)
CORNERS = "/ 0 0 1 1 / 2 0 1 1 / 0 2 1 1"
VALUES = "/ 0 0 1 1 0 0 / 2 0 1 1 4 0 / 0 2 1 1 0 4"
# Over each floor, at the depths 1, 2 and 3.
NEAR_SHEET = "/ -100 -100 1 1 / 300 -100 1 1 / -100 300 1 1"
SHEET = "/ -200 -200 2 1 / 600 -200 2 1 / -200 600 2 1"
FAR_SHEET = "/ -300 -300 3 1 / 900 -300 3 1 / -300 900 3 1"
THINGS = [f"plain 1/2 {CORNERS}", f"shaded {VALUES}", f"patterned 1,0;1/2,-3 {VALUES}", f"glass -1 1/3 {NEAR_SHEET}"]
TOLD = THINGS + ["floor 4 3", "ground 1/2", "spots 2,2 6,6", "drop 0", "near 1 1", "keep"]
ASKED = ["show", "paint", "tiles 2", "doubt", "at 1 1 2", "who 1 1 2", "part"]
NO_TEXTS = [None, 0, 1, True, False, 1.5, [], ["show"], (), {}, b"show"]


def desk_of(*rows):
    """a desk that was told these rows"""
    desk = Desk()
    for row in rows:
        assert desk.say(row) == "ok", row
    return desk


def desk_with(things, *rows):
    return desk_of(*rows, *[thing_text(thing) for thing in things])


def row_like(thing, triangle):
    """the row of a thing with the head of this one, of another triangle"""
    return thing_text(thing).partition(" / ")[0] + thing_text(Plain(triangle, (0, 1)))[len("plain 0"):]


class NewDesk(Case):
    def test_answers(self):
        for row, expected in (
            ("show", NEW), ("paint", BLANK), ("tiles 1", "none"), ("tiles 8", "none"), ("tiles 64", "none"),
            ("doubt", "none"), ("at 0 0 1", "0"), ("at -5 99 7", "0"), ("who 0 0 1", "none"), ("near 1 1", "ok"),
            ("keep", "ok"), ("floor 1 1", "ok"), ("ground -1/2", "ok"), ("spots 1,1 7,7", "ok"),
        ):
            desk = Desk()
            told = desk.say(row)
            self.assertEqual(told, expected, row)
            self.assertIs(type(told), str)

    def test_nothing_is_kept(self):
        self.assertEqual(self.assertRefused(NoRow, Desk().say, "part").at, 0)

    def test_no_thing_to_drop(self):
        self.assertEqual(self.assertRefused(NoRow, Desk().say, "drop 0").at, 0)


class Told(Case):
    def test_floor_ground_and_spots(self):
        desk = desk_of("floor 3 2", "ground -7/3", "spots 6,6 2,2")
        self.assertEqual(desk.say("show"), "floor 3 2\nground -7/3\nspots 6,6 2,2")
        self.assertEqual(desk.say("paint"), "-7/3 -7/3 -7/3\n-7/3 -7/3 -7/3")
        self.assertEqual(desk.say("at 1 1 1"), "-7/3")
        for row in ("floor 64 1", "ground 5", "spots 1,7"):
            self.assertEqual(desk.say(row), "ok")
        self.assertEqual(desk.say("show"), "floor 64 1\nground 5\nspots 1,7")

    def test_each_leaves_the_others(self):
        desk = desk_of(*THINGS, "floor 3 2", "ground 9", "spots 1,1")
        self.assertEqual(desk.say("show"), "\n".join(["floor 3 2", "ground 9", "spots 1,1"] + THINGS))
        desk.say("floor 2 3")
        self.assertEqual(desk.say("show"), "\n".join(["floor 2 3", "ground 9", "spots 1,1"] + THINGS))
        desk.say("ground 8")
        self.assertEqual(desk.say("show"), "\n".join(["floor 2 3", "ground 8", "spots 1,1"] + THINGS))
        desk.say("spots 2,1 1,2")
        self.assertEqual(desk.say("show"), "\n".join(["floor 2 3", "ground 8", "spots 2,1 1,2"] + THINGS))

    def test_things_stand_behind_the_others(self):
        for order in itertools.permutations(THINGS):
            self.assertEqual(desk_of(*order).say("show"), "\n".join((NEW,) + order))

    def test_one_thing_twice(self):
        self.assertEqual(desk_of(THINGS[0], THINGS[0]).say("show"), "\n".join([NEW, THINGS[0], THINGS[0]]))

    def test_drop(self):
        for number in range(4):
            desk = desk_of(*THINGS, f"drop {number}")
            self.assertEqual(desk.say("show"), "\n".join([NEW] + THINGS[:number] + THINGS[number + 1:]))

    def test_drop_again_and_again(self):
        desk = desk_of(*THINGS, "drop 1", "drop 1")
        self.assertEqual(desk.say("show"), "\n".join([NEW, THINGS[0], THINGS[3]]))
        self.assertRefused(NoRow, desk.say, "drop 2")
        for row in ("drop 1", "drop 0"):
            self.assertEqual(desk.say(row), "ok")
        self.assertEqual(desk.say("show"), NEW)
        self.assertRefused(NoRow, desk.say, "drop 0")
        self.assertEqual(desk_of(*THINGS, "drop 0", THINGS[0]).say("show"), "\n".join([NEW] + THINGS[1:] + THINGS[:1]))


# From depth 1 to 3, along the floor's left edge; the heads of all kinds.
SLANTED = "/ 0 0 1 1 0 0 / 4 0 1 1 4 0 / 0 12 3 1 0 12"
HEADS = ["plain 1/2", "shaded", "patterned 1,0;1/2,-3", "glass -1 1/3"]


class Near(Case):
    def test_leaves_what_lies_within(self):
        for head in HEADS:
            for row in ("near 1 1", "near 1 2", "near 1 1000000", "near 1000000 1000000"):
                desk = desk_of(f"{head} {SLANTED}", row)
                self.assertEqual(desk.say("show"), f"{NEW}\n{head} {SLANTED}")

    def test_takes_away_what_lies_without(self):
        for head in HEADS:
            for row in ("near 4 1", "near 1000000 1", "near 300001 100000", "near 1000000 333333"):
                self.assertEqual(desk_of(f"{head} {SLANTED}", row).say("show"), NEW)

    def test_a_corner_on_the_wall_is_within(self):
        # Cut at depth 3, where the last corner stands: a flat piece is left, of that corner alone.
        self.assertEqual(desk_of(f"plain 1 {SLANTED}", "near 3 1").say("show"),
                         f"{NEW}\nplain 1 / 0 12 3 1 0 12 / 0 12 3 1 0 12 / 0 12 3 1 0 12")

    def test_one_piece(self):
        # At depth 2 the far corner is alone on its side: one piece, begun at this corner.
        for head in HEADS:
            self.assertEqual(desk_of(f"{head} {SLANTED}", "near 2 1").say("show"),
                             f"{NEW}\n{head} / 0 12 3 1 0 12 / 0 6 2 1 0 6 / 2 6 2 1 2 6")

    def test_two_pieces(self):
        # The other way round the near corner is alone: two pieces.
        for head in HEADS:
            desk = desk_of(f"{head} / 0 0 1 1 0 0 / 12 0 3 1 12 0 / 0 12 3 1 0 12", "near 2 1")
            self.assertEqual(desk.say("show"), "\n".join([
                NEW, f"{head} / 6 0 2 1 6 0 / 12 0 3 1 12 0 / 0 12 3 1 0 12",
                f"{head} / 6 0 2 1 6 0 / 0 12 3 1 0 12 / 0 6 2 1 0 6",
            ]))

    def test_pieces_stand_in_the_place(self):
        two = "/ 0 0 1 1 0 0 / 12 0 3 1 12 0 / 0 12 3 1 0 12"
        desk = desk_of(f"plain 7 {SHEET}", f"shaded {two}", f"plain 8 {NEAR_SHEET}", f"glass 1 0 {SLANTED}",
                       f"plain 9 {FAR_SHEET}", "near 2 1")
        self.assertEqual(desk.say("show"), "\n".join([
            NEW, f"plain 7 {SHEET}", "shaded / 6 0 2 1 6 0 / 12 0 3 1 12 0 / 0 12 3 1 0 12",
            "shaded / 6 0 2 1 6 0 / 0 12 3 1 0 12 / 0 6 2 1 0 6",
            "glass 1 0 / 0 12 3 1 0 12 / 0 6 2 1 0 6 / 2 6 2 1 2 6", f"plain 9 {FAR_SHEET}",
        ]))

    def test_a_wall_between_whole_depths(self):
        desk = desk_of(f"shaded {SLANTED}", "near 3 2")
        self.assertEqual(desk.say("show"), "\n".join([
            NEW, "shaded / 0 12 3 1 0 12 / 0 6 3 2 0 6 / 6 6 3 2 6 6",
        ]))

    def test_against_the_walls(self):
        for seed, (a, b) in itertools.product(range(4), ((1, 1), (3, 2), (2, 1), (7, 5), (5, 4), (10 ** 6, 999999))):
            things = things_of(seed)
            expected = []
            for thing in things:
                expected += [row_like(thing, piece) for piece in cut(thing.triangle, (0, 0, b, -a))[0]]
            desk = desk_with(things)
            self.assertEqual(desk.say(f"near {a} {b}"), "ok")
            self.assertEqual(desk.say("show"), "\n".join([NEW] + expected))

    def test_what_lies_within_looks_as_before(self):
        # Of what a near wall leaves each point looks as it did there: only things are asked that lie within whole.
        for seed in range(3):
            things = [thing for thing in things_of(seed, 9) if min([c[2] / c[3] for c in thing.triangle]) >= 1]
            desk = desk_with(things)
            before = desk.say("paint")
            self.assertEqual(desk.say("near 1 1"), "ok")
            self.assertEqual(desk.say("paint"), before)

    def test_again_and_again(self):
        # Numbers of many figures come up; they are written all the same.
        big = 10 ** 29
        row = f"shaded / 17 3 1 7 5 / {big + 9} {7 * big // 3} {9 * big + 2} {big - 3} -8 / -300 {big // 7} 8 3 99"
        desk, pieces, thing = desk_of(row), [read_thing(row).triangle], read_thing(row)
        for number in range(9):
            a, b = 100003 + 7919 * number, 99991 - 6007 * number
            self.assertEqual(desk.say(f"near {a} {b}"), "ok")
            pieces = sum([cut(piece, (0, 0, b, -a))[0] for piece in pieces], [])
        text = desk.say("show")
        self.assertEqual(text, "\n".join([NEW] + [row_like(thing, piece) for piece in pieces]))
        self.assertGreater(max([len(word) for word in text.replace("\n", " ").split(" ")]), 30)


class Asked(Case):
    def scenes(self):
        for seed in range(5):
            numbers = stream(seed + 50)
            spots = ["4,4", "2,2 6,2 2,6 6,6", "1,7 4,4"][seed % 3]
            head = [f"floor {3 + next(numbers) % 5} {3 + next(numbers) % 5}", f"ground {next(numbers) % 9 - 4}/11",
                    f"spots {spots}"]
            if head[1] == "ground 0/11":
                head[1] = "ground 0"
            for things in (level_things(seed), things_of(seed)):
                desk = desk_with(things, *head)
                yield desk, read_scene(desk.say("show")), "\n".join(head + [thing_text(thing) for thing in things])

    def test_show(self):
        for desk, scene, text in self.scenes():
            self.assertEqual(desk.say("show"), text)
            self.assertEqual(scene_text(scene), text)

    def test_paint(self):
        for desk, (width, height, ground, spots, things), text in self.scenes():
            told = desk.say("paint")
            self.assertEqual(told, picture_text(paint(things, width, height, spots, ground)))
            self.assertEqual(read_picture(told), picture_by_hand(things, width, height, spots, ground))

    def test_paint_by_hand(self):
        desk = desk_of("floor 4 3", THINGS[0])
        self.assertEqual(desk.say("paint"), "1/2   0   0   0\n  0   0   0   0\n  0   0   0   0")
        desk = desk_of("floor 2 1", f"plain 1 {SHEET}", f"glass 4 1/2 {NEAR_SHEET}", f"plain -7/2 {CORNERS}")
        self.assertEqual(desk.say("paint"), "-7/2  5/2")

    def test_paint_of_some_thousand_figures(self):
        # Sixteen spots, each under glass of unlike parts, come to more figures than Python writes by itself.
        desk = desk_of("floor 1 1", "spots " + " ".join([f"{k % 4 + 1},{k // 4 + 1}" for k in range(16)]))
        for column, row in itertools.product(range(1, 5), repeat=2):
            for number in range(5):
                place = 16 * (4 * column + row) + number
                corners = f"/ {2 * column - 1} {2 * row - 1} 16 16 / {2 * column + 3} {2 * row - 1} 16 16"
                corners += f" / {2 * column - 1} {2 * row + 3} 16 16"
                colour, part = f"1/{10 ** 29 + 2 * place + 1}", f"1/{10 ** 29 + 7 ** 9 * place}"
                self.assertEqual(desk.say(f"glass {colour} {part} {corners}"), "ok")
        self.assertEqual(desk.say("ground 1/3"), "ok")
        told = desk.say("paint")
        self.assertGreater(len(told), 8000)
        self.assertEqual(told.replace("/", "").isdigit(), True)
        self.assertEqual(desk.say("keep"), "ok")
        self.assertEqual(desk.say("part"), "alike")

    def test_tiles(self):
        some = 0
        for desk, (width, height, ground, spots, things), text in self.scenes():
            for wide in (1, 2, 3, 5, 64):
                gone = paint_tiles(things, width, height, wide, None, spots, ground)[1]
                words = [f"{tile}:{number}" for tile, number in sorted([entry[:2] for entry in gone])]
                some += len(words)
                self.assertEqual(desk.say(f"tiles {wide}"), " ".join(words) or "none")
        self.assertGreater(some, 20)

    def test_tiles_by_tile_then_by_number(self):
        desk = desk_of("floor 24 1", *[f"plain {k} {NEAR_SHEET}" for k in range(12)])
        told = desk.say("tiles 2").split(" ")
        self.assertEqual(told, [f"{tile}:{number}" for tile in range(12) for number in range(1, 12)])
        self.assertEqual(desk.say("tiles 24"), " ".join([f"0:{number}" for number in range(1, 12)]))

    def test_tiles_hang_on_the_spots(self):
        # Hidden at the one spot, not at the other.
        desk = desk_of("floor 1 1", "plain 1 / 0 0 2 2 / 2 0 2 2 / 0 2 2 2", f"plain 2 {FAR_SHEET}", "spots 1,1")
        self.assertEqual(desk.say("tiles 1"), "0:1")
        desk.say("spots 1,1 7,7")
        self.assertEqual(desk.say("tiles 1"), "none")

    def test_doubt(self):
        some = 0
        for desk, (width, height, ground, spots, things), text in self.scenes():
            cells = doubtful(things, width, height, spots)
            some += len(cells)
            self.assertEqual(desk.say("doubt"), " ".join([f"{column},{row}" for column, row in cells]) or "none")
        self.assertGreater(some, 20)
        desk = desk_of("floor 2 2", f"plain 1 {SHEET}", f"glass 1 0 {SHEET}")
        self.assertEqual(desk.say("doubt"), "0,0 1,0 0,1 1,1")

    def test_at_and_who(self):
        for desk, (width, height, ground, spots, things), text in self.scenes():
            for px, py, s in itertools.product((-1, 0, 3, 9), (0, 2, 11), (1, 2, 7)):
                colour = colour_by_hand(things, (px, py, s), Fraction(*ground))
                self.assertEqual(desk.say(f"at {px} {py} {s}"), fraction_word((colour.numerator, colour.denominator)))
                seen = [number for number, thing in enumerate(things) if seen_by_hand(thing.triangle, (px, py, s))]
                self.assertEqual(desk.say(f"who {px} {py} {s}"), " ".join([str(number) for number in seen]) or "none")

    def test_who_counts_all(self):
        rows = [f"plain 1 {FAR_SHEET}", f"glass 1 0 {SHEET}", f"plain 1 {CORNERS}", f"plain 1 {NEAR_SHEET}"] * 3
        desk = desk_of(*rows)
        self.assertEqual(desk.say("who 50 50 1"), "0 1 3 4 5 7 8 9 11")
        self.assertEqual(desk.say("who 1 1 2"), " ".join([str(number) for number in range(12)]))
        self.assertEqual(desk.say("drop 3"), "ok")
        self.assertEqual(desk.say("who 50 50 1"), "0 1 3 4 6 7 8 10")

    def test_points_to_the_bounds(self):
        most = 10 ** 8
        desk = desk_of("ground 5")
        for px, py, s in itertools.product((-most, 0, most), (-most, 0, most), (1, most)):
            self.assertEqual(desk.say(f"at {px} {py} {s}"), "5")
            self.assertEqual(desk.say(f"who {px} {py} {s}"), "none")

    def test_asking_changes_nothing(self):
        for desk, scene, text in self.scenes():
            desk.say("keep")
            told = [desk.say(row) for row in ASKED]
            self.assertEqual([desk.say(row) for row in ASKED], told)
            self.assertEqual([desk.say(row) for row in reversed(ASKED)], told[::-1])
            self.assertEqual(desk.say("show"), text)


class KeepAndPart(Case):
    def test_alike(self):
        desk = desk_of(*THINGS, "keep")
        self.assertEqual(desk.say("part"), "alike")
        self.assertEqual(desk_of("keep").say("part"), "alike")

    def test_alike_by_the_picture_alone(self):
        desk = desk_of(f"plain 1 {SHEET}", "keep")
        for row in (f"plain 2 {FAR_SHEET}", "ground 9", "spots 1,1", f"glass 7 0 {NEAR_SHEET}", "drop 1", "near 1 1"):
            desk.say(row)
            self.assertEqual(desk.say("part"), "alike")

    def test_differing(self):
        desk = desk_of("floor 4 3", "keep", "plain 1 / 0 0 1 1 / 3 0 1 1 / 0 3 1 1")
        self.assertEqual(desk.say("part"), "0,0 1,0 0,1")
        desk.say("ground 1")
        self.assertEqual(desk.say("part"), "0,0 1,0 2,0 3,0 0,1 1,1 2,1 3,1 0,2 1,2 2,2 3,2")
        desk.say("keep")
        self.assertEqual(desk.say("part"), "alike")
        desk.say("drop 0")
        self.assertEqual(desk.say("part"), "alike")

    def test_by_row_then_by_column(self):
        desk = desk_of("floor 12 11", "keep", "ground 1/2")
        cells = [f"{column},{row}" for row in range(11) for column in range(12)]
        self.assertEqual(desk.say("part"), " ".join(cells))

    def test_last_cells(self):
        desk = desk_of("floor 2 2", "keep", "plain 1 / 1 1 1 1 / 3 1 1 1 / 1 3 1 1")
        self.assertEqual(desk.say("part"), "1,1")

    def test_unlike_sizes(self):
        desk = desk_of("floor 4 3", "keep")
        for row, expected in (
            ("floor 3 4", "sizes"), ("floor 4 4", "sizes"), ("floor 3 3", "sizes"), ("floor 4 2", "sizes"),
            ("floor 5 3", "sizes"), ("floor 12 1", "sizes"), ("floor 1 12", "sizes"), ("floor 4 3", "alike"),
        ):
            desk.say(row)
            self.assertEqual(desk.say("part"), expected)
        desk.say("floor 3 4")
        desk.say("keep")
        self.assertEqual(desk.say("part"), "alike")

    def test_kept_as_it_was(self):
        # The picture is kept, not the scene.
        desk = desk_of("floor 2 1", f"plain 1 {SHEET}", "keep", "drop 0")
        self.assertEqual(desk.say("part"), "0,0 1,0")
        desk.say("ground 1")
        self.assertEqual(desk.say("part"), "alike")

    def test_keep_again(self):
        desk = desk_of("floor 1 1", "keep", "ground 1", "keep", "ground 2", "keep", "ground 1")
        self.assertEqual(desk.say("part"), "0,0")
        desk.say("ground 2")
        self.assertEqual(desk.say("part"), "alike")


class TwoDesks(Case):
    def test_each_keeps_its_own(self):
        one, other = Desk(), Desk()
        for row in TOLD[:5]:
            self.assertEqual(one.say(row), "ok")
        self.assertEqual(other.say("show"), NEW)
        other.say("ground 9")
        other.say(f"plain 1 {SHEET}")
        other.say("keep")
        self.assertEqual(one.say("show"), "\n".join(["floor 4 3", "ground 0", "spots 4,4"] + THINGS))
        self.assertRefused(NoRow, one.say, "part")
        self.assertEqual(other.say("part"), "alike")
        self.assertEqual(Desk().say("show"), NEW)

    def test_each_counts_its_own(self):
        one, other = Desk(), Desk()
        for row in ("show", "paint", "keep"):
            one.say(row)
        self.assertEqual(self.assertRefused(NoRow, other.say, "x").at, 0)
        self.assertEqual(self.assertRefused(NoRow, one.say, "x").at, 3)


def no_rows():
    """rows that have none of the forms, or a number that can't stand there, on a desk with four things"""
    found = ["", " ", "\n", "x", "ok", "none", "alike", "show show", "Show", "SHOW", "shows", "sho", "help", "/", "0"]
    for row in TOLD + ASKED:
        found += [row + " ", " " + row, row + "\n", "\n" + row, row + " x", row + "\n" + row, row + "\t", "x" + row]
        found += [row + " 1" if not row.startswith(("shaded", "plain", "patterned", "glass")) else row + " 1x"]
        if " " in row:
            found += [row.replace(" ", "  ", 1), row.replace(" ", "\n", 1), row.partition(" ")[0]]
        if row.startswith(("floor", "near", "at", "who")):
            found.append(row.rpartition(" ")[0])
    for words in ("0 8", "8 0", "65 8", "8 65", "-1 8", "8 -1", "8", "8 8 8", "08 8", "8 +8", "8/3 8", "8,8", "a b"):
        found.append("floor " + words)
    for words in ("2/4", "5/1", "-0", "01", "+1", "a", "0 0", "1/-2", "1" + "0" * 30, "1,0"):
        found.append("ground " + words)
    for words in ("0,4", "8,4", "4,0", "4,8", "4,4 4,4", "4", "4,4,4", "4,4 x", "4;4", "1/2,4", "-1,4", "04,4",
                  " ".join([f"{k % 7 + 1},{k // 7 + 1}" for k in range(17)])):
        found.append("spots " + words)
    for words in ("4", "-1", "-0", "00", "1/2", "9" * 30, "1" + "0" * 30, "0 0", "+1", "a"):
        found.append("drop " + words)
    for words in ("0 1", "1 0", "-1 1", "1 -1", "1000001 1", "1 1000001", "1", "1 1 1", "1/2 1", "01 1", "1 +1", "a 1"):
        found.append("near " + words)
    for words in ("0", "65", "-1", "1 1", "1/2", "08", "+8", "a", "9" * 30):
        found.append("tiles " + words)
    for head in ("at", "who"):
        for words in ("0 0 0", "0 0 -1", "100000001 0 1", "-100000001 0 1", "0 100000001 1", "0 -100000001 1",
                      "0 0 100000001", "0 0", "0", "0 0 1 1", "0 0 1/2", "1/2 0 1", "0 1/2 1", "00 0 1",
                      "0 -0 1", "a 0 1"):
            found.append(f"{head} {words}")
    found += ["keep 1", "keep keep", "paint 1", "doubt 1", "show 1", "part 1", "part 0,0"]
    found += [f"plain {CORNERS}", f"plain 2/4 {CORNERS}", f"glass 1 {CORNERS}", f"shaded 1 {VALUES}",
              f"thing 1 {CORNERS}",
              "plain 1 / 0 0 1 1 / 2 0 1 1", f"plain 1 {CORNERS} / 0 0 1 1", "plain 1 / 0 0 1 / 2 0 1 1 / 0 2 1 1"]
    return found


# What a thing's row is refused with behind its form.
REFUSED_THINGS = {
    "plain 1 / 0 0 0 1 / 2 0 1 1 / 0 2 1 1": BadTriangle, "plain 1 / 0 0 1 0 / 2 0 1 1 / 0 2 1 1": BadTriangle,
    "plain 1 / 0 0 -1 1 / 2 0 1 1 / 0 2 1 1": BadTriangle, "plain 1 / 0 0 1 1 1 / 2 0 1 1 / 0 2 1 1": BadTriangle,
    "glass 1 2 / 0 0 1 -1 / 2 0 1 1 / 0 2 1 1": BadTriangle,
    "shaded / 0 0 1 1 1 2 3 4 / 2 0 1 1 1 2 3 4 / 0 2 1 1 1 2 3 4": BadTriangle,
    "patterned 1,0,1 / 0 0 0 1 0 0 / 2 0 1 1 4 0 / 0 2 1 1 0 4": BadTriangle,
    f"shaded {CORNERS}": BadThing, f"patterned 1 {CORNERS}": BadThing, f"patterned 1,0,1 {CORNERS}": BadThing,
    f"glass 1 2 {CORNERS}": BadThing, f"glass 1 -1/2 {CORNERS}": BadThing, f"glass 1 3/2 {CORNERS}": BadThing,
    f"patterned 1,0,1 {VALUES}": BadPattern, f"patterned 1,0;1 {VALUES}": BadPattern,
    f"patterned 1;0;1 {VALUES}": BadPattern,
}


class Refused(Case):
    def test_forms_and_numbers(self):
        desk = desk_of(*THINGS, "keep")
        for row in no_rows():
            self.assertEqual(self.assertRefused(NoRow, desk.say, row).at, 5, row)

    def test_no_text(self):
        desk = desk_of("ground 1", "keep")
        for row in NO_TEXTS:
            self.assertEqual(self.assertRefused(NoRow, desk.say, row).at, 2)
            self.assertEqual(self.assertRefused(NoRow, Desk().say, row).at, 0)

    def test_things(self):
        desk = desk_of(*THINGS)
        for row, error in REFUSED_THINGS.items():
            self.assertRefused(error, desk.say, row)
            self.assertRefused(error, Desk().say, row)

    def test_part_where_nothing_is_kept(self):
        desk = Desk()
        for number, row in enumerate(THINGS + ["paint", "show"]):
            self.assertEqual(self.assertRefused(NoRow, desk.say, "part").at, number)
            desk.say(row)

    def test_the_count_of_rows_answered(self):
        desk = Desk()
        answered = 0
        for row in TOLD + ASKED:
            # What is refused isn't answered, whatever it is refused with.
            for wrong in ("x", None, "floor 0 0", "drop 99"):
                self.assertEqual(self.assertRefused(NoRow, desk.say, wrong).at, answered)
            for wrong, error in list(REFUSED_THINGS.items())[::5]:
                self.assertRefused(error, desk.say, wrong)
            desk.say(row)
            answered += 1
        self.assertEqual(self.assertRefused(NoRow, desk.say, "").at, answered)

    def test_nothing_is_changed(self):
        # The kept picture differs from that of the scene, so that both can be told apart.
        desk = desk_of(*THINGS, "floor 5 4", "keep", "ground 1/2", "spots 2,2 6,6")
        before = [desk.say(row) for row in ASKED]
        self.assertNotIn(before[-1], ("alike", "sizes"))
        for row in no_rows()[::3] + NO_TEXTS:
            self.assertRefused(NoRow, desk.say, row)
        for row, error in REFUSED_THINGS.items():
            self.assertRefused(error, desk.say, row)
        self.assertEqual([desk.say(row) for row in ASKED], before)

    def test_each_refusal_leaves_the_scene(self):
        desk = desk_of(*THINGS, "keep")
        text = desk.say("show")
        for row in no_rows() + list(REFUSED_THINGS):
            try:
                desk.say(row)
            except ValueError:
                pass
            self.assertEqual(desk.say("show"), text, row)
        self.assertEqual(desk.say("part"), "alike")

    def test_edges_of_the_numbers(self):
        desk = desk_of(*THINGS)
        for row in ("floor 1 1", "floor 64 64", "floor 1 64", "spots 1,1 7,7 1,7 7,1", "near 1 1000000", "floor 2 2",
                    "drop 3", "drop 0"):
            self.assertEqual(desk.say(row), "ok", row)
        for row in ("tiles 1", "tiles 64", "at -100000000 100000000 1", "who 100000000 -100000000 100000000"):
            self.assertIs(type(desk.say(row)), str)
        for row in ("near 1000000 1", "spots " + " ".join([f"{k % 7 + 1},{k // 7 + 1}" for k in range(16)])):
            self.assertEqual(desk.say(row), "ok", row)


class Promises(Case):
    def test_tiles_and_pictures_of_a_desk(self):
        # [0.3] what is shown can be told to another desk, row by row, and looks the same.
        for seed in range(3):
            desk = desk_with(level_things(seed) + things_of(seed), "floor 5 4", "spots 2,2 6,2")
            rows = desk.say("show").split("\n")
            other = desk_of(*rows)
            for row in ("show", "paint", "tiles 2", "doubt", "who 3 3 2", "at 3 3 2"):
                self.assertEqual(other.say(row), desk.say(row))

    def test_pieces_of_a_desk(self):
        # [0.3] a thing and its pieces, those before and those behind a wall, look the same.
        for seed in range(4):
            things = things_of(seed)
            desk = desk_with(things, "floor 6 6")
            desk.say("keep")
            for number in range(len(things)):
                desk.say("drop 0")
            for thing in things:
                inside, outside = cut(thing.triangle, (0, 0, 2, -3))
                for piece in inside + outside:
                    self.assertEqual(desk.say(row_like(thing, piece)), "ok")
            self.assertEqual(desk.say("part"), "alike")

    def test_what_is_told_is_text(self):
        desk = desk_of(*THINGS, "keep")
        for row in ASKED + TOLD:
            self.assertIs(type(desk.say(row)), str)


class Interface(Case):
    def test_names_and_arguments(self):
        self.assertEqual(list(inspect.signature(module.Desk).parameters), [])
        self.assertEqual(list(inspect.signature(module.Desk.say).parameters), ["self", "row"])
