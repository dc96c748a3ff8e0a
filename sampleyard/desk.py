"""The desk: keeps a scene and perhaps a picture, is told rows of text and answers each [10.5, 10.6]."""

from sampleyard.errors import BadFloor, NoRow
from sampleyard.paint import colour_seen, doubtful, paint
from sampleyard.seen import seen_at
from sampleyard.texts import (
    check_text, fraction_word, just_words_behind, number_word, numbers_behind, pair_word, picture_text, read_floor,
    read_ground, read_spots, read_thing, scene_text,
)
from sampleyard.tiles import paint_tiles
from sampleyard.walls import cut
from sampleyard.whole import is_between


def with_floor(scene, row):
    size = read_floor(row)
    return (size[0], size[1], scene[2], scene[3], scene[4])


def with_ground(scene, row):
    return (scene[0], scene[1], read_ground(row), scene[3], scene[4])


def with_spots(scene, row):
    return (scene[0], scene[1], scene[2], read_spots(row), scene[4])


def with_things(scene, things):
    return (scene[0], scene[1], scene[2], scene[3], things)


def with_thing(scene, row):
    return with_things(scene, scene[4] + [read_thing(row)])


def without_thing(scene, row):
    number = numbers_behind("drop", row, 1)[0]
    check_number(number, 0, len(scene[4]) - 1)
    return with_things(scene, scene[4][:number] + scene[4][number + 1:])


def cut_near(scene, row):
    numbers = numbers_behind("near", row, 2)
    for number in numbers:
        check_number(number, 1, 10 ** 6)
    wall = (0, 0, numbers[1], -numbers[0])
    things = []
    for thing in scene[4]:
        # All corners within have w above 0, so no piece is ever refused.
        things.extend([thing.like(piece) for piece in cut(thing.triangle, wall)[0]])
    return with_things(scene, things)


def check_number(number, least, most):
    if not is_between(number, least, most):
        raise NoRow(0)


def picture_of(scene):
    return paint(scene[4], scene[0], scene[1], scene[3], scene[2])


def shown(scene, row):
    just_words_behind("show", row, 0)
    return scene_text(scene)


def painted(scene, row):
    just_words_behind("paint", row, 0)
    return picture_text(picture_of(scene))


def let_go(scene, row):
    wide = numbers_behind("tiles", row, 1)[0]
    told = paint_tiles(scene[4], scene[0], scene[1], wide, None, scene[3], scene[2])[1]
    return listed([number_word(gone[0]) + ":" + number_word(gone[1]) for gone in told], "none")


def doubted(scene, row):
    just_words_behind("doubt", row, 0)
    cells = doubtful(scene[4], scene[0], scene[1], scene[3])
    return listed([pair_word(cell) for cell in cells], "none")


def colour_told(scene, row):
    return fraction_word(colour_seen(scene[4], read_point("at", row), scene[2]))


def numbers_seen(scene, row):
    point = read_point("who", row)
    seen = [number_word(number) for number, thing in enumerate(scene[4]) if seen_at(thing.triangle, point) is not None]
    return listed(seen, "none")


def read_point(head, row):
    numbers = numbers_behind(head, row, 3)
    for number in numbers[:2]:
        check_number(number, -(10 ** 8), 10 ** 8)
    check_number(numbers[2], 1, 10 ** 8)
    return (numbers[0], numbers[1], numbers[2])


def listed(words, otherwise):
    return " ".join(words) if words else otherwise


def unlike_cells(kept, picture):
    if len(kept) != len(picture) or len(kept[0]) != len(picture[0]):
        return "sizes"
    cells = []
    for row in range(len(picture)):
        for column in range(len(picture[row])):
            if picture[row][column] != kept[row][column]:
                cells.append((column, row))
    return listed([pair_word(cell) for cell in cells], "alike")


TOLD = {
    "floor": with_floor, "ground": with_ground, "spots": with_spots, "drop": without_thing, "near": cut_near,
}
ASKED = {
    "show": shown, "paint": painted, "tiles": let_go, "doubt": doubted, "at": colour_told, "who": numbers_seen,
}


class Desk:
    def __init__(self):
        self.scene = (8, 8, (0, 1), [(4, 4)], [])
        self.kept = None
        self.answered = 0

    def say(self, row):
        try:
            answer = self.answer_to(row)
        except (NoRow, BadFloor):
            # What can't be read knows nothing of this desk; its number is the count of rows answered.
            raise NoRow(self.answered) from None
        self.answered = self.answered + 1
        return answer

    def answer_to(self, row):
        check_text(row)
        head = row.split(" ")[0]
        if head in ASKED:
            return ASKED[head](self.scene, row)
        if head == "part":
            return self.differing(row)
        if head == "keep":
            just_words_behind("keep", row, 0)
            self.kept = picture_of(self.scene)
        elif head in TOLD:
            self.scene = TOLD[head](self.scene, row)
        else:
            self.scene = with_thing(self.scene, row)
        return "ok"

    def differing(self, row):
        just_words_behind("part", row, 0)
        if self.kept is None:
            raise NoRow(0)
        return unlike_cells(self.kept, picture_of(self.scene))
