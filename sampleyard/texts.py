"""Texts: numbers, things, scenes and pictures, written and read again [10.1 to 10.4]."""

from sampleyard.corners import numbers_of
from sampleyard.errors import NoRow, YardError
from sampleyard.fractions import is_fraction
from sampleyard.paint import check_floor, check_spots
from sampleyard.things import Glass, Patterned, Plain, Shaded

FIGURES = "0123456789"
MOST_FIGURES = 30


def number_word(number):
    # In pieces, as Python itself refuses to write a number of some thousand figures.
    pieces = []
    rest = abs(number)
    while rest >= 10 ** 60:
        pieces.append(str(rest % 10 ** 60).zfill(60))
        rest = rest // 10 ** 60
    pieces.append(str(rest))
    if number < 0:
        pieces.append("-")
    return "".join(reversed(pieces))


def fraction_word(fraction):
    if fraction[1] == 1:
        return number_word(fraction[0])
    return number_word(fraction[0]) + "/" + number_word(fraction[1])


def read_number(word):
    figures = word[1:] if word.startswith("-") else word
    if not are_figures(figures) or word == "-0":
        raise NoRow(0)
    return int(word)


def are_figures(word):
    if word == "" or len(word) > MOST_FIGURES:
        return False
    if word.startswith("0") and word != "0":
        return False
    return all([sign in FIGURES for sign in word])


def read_fraction(word):
    if "/" not in word:
        return (read_number(word), 1)
    pieces = word.partition("/")
    fraction = (read_number(pieces[0]), read_number(pieces[2]))
    if fraction[1] == 1 or not is_fraction(fraction):
        raise NoRow(0)
    return fraction


def words_behind(head, row):
    words = row.split(" ")
    if words[0] != head:
        raise NoRow(0)
    return words[1:]


def just_words_behind(head, row, count):
    words = words_behind(head, row)
    if len(words) != count:
        raise NoRow(0)
    return words


def numbers_behind(head, row, count):
    return [read_number(word) for word in just_words_behind(head, row, count)]


def thing_text(thing):
    return " ".join(head_words(thing) + [corner_text(corner) for corner in thing.triangle])


def head_words(thing):
    word = thing.word()
    if word == "plain":
        return [word, fraction_word(thing.colour)]
    if word == "patterned":
        return [word, pattern_word(thing.pattern)]
    if word == "glass":
        return [word, fraction_word(thing.colour), fraction_word(thing.part)]
    return [word]


def pattern_word(pattern):
    return ";".join([",".join([fraction_word(entry) for entry in row]) for row in pattern])


def corner_text(corner):
    return " ".join(["/"] + [number_word(number) for number in numbers_of(corner)])


def read_thing(row):
    check_text(row)
    groups = groups_of(row.split(" "))
    if len(groups) != 4:
        raise NoRow(0)
    return thing_of(groups[0], tuple([read_corner(words) for words in groups[1:]]))


def check_text(text):
    if not isinstance(text, str):
        raise NoRow(0)


def groups_of(words):
    groups = [[]]
    for word in words:
        if word == "/":
            groups.append([])
        else:
            groups[-1].append(word)
    return groups


def read_corner(words):
    if len(words) < 4:
        raise NoRow(0)
    numbers = [read_number(word) for word in words]
    return (numbers[0], numbers[1], numbers[2], numbers[3], tuple(numbers[4:]))


def thing_of(head, triangle):
    # The head is read ahead of what is made of it: a row without the form is refused as such first.
    if head[:1] == ["plain"] and len(head) == 2:
        return Plain(triangle, read_fraction(head[1]))
    if head == ["shaded"]:
        return Shaded(triangle)
    if head[:1] == ["patterned"] and len(head) == 2:
        return Patterned(triangle, read_pattern(head[1]))
    if head[:1] == ["glass"] and len(head) == 3:
        return Glass(triangle, read_fraction(head[1]), read_fraction(head[2]))
    raise NoRow(0)


def read_pattern(word):
    return [[read_fraction(entry) for entry in row.split(",")] for row in word.split(";")]


def scene_text(scene):
    rows = [
        " ".join(["floor", number_word(scene[0]), number_word(scene[1])]),
        " ".join(["ground", fraction_word(scene[2])]),
        " ".join(["spots"] + [pair_word(spot) for spot in scene[3]]),
    ]
    return "\n".join(rows + [thing_text(thing) for thing in scene[4]])


def pair_word(pair):
    return number_word(pair[0]) + "," + number_word(pair[1])


def read_scene(text):
    check_text(text)
    rows = text.split("\n")
    size = read_at(rows, 0, read_floor)
    ground = read_at(rows, 1, read_ground)
    spots = read_at(rows, 2, read_spots)
    things = [read_at(rows, number, read_thing) for number in range(3, len(rows))]
    return (size[0], size[1], ground, spots, things)


def read_at(rows, number, read):
    if number >= len(rows):
        raise NoRow(number)
    try:
        return read(rows[number])
    except YardError:
        raise NoRow(number) from None


def read_floor(row):
    size = numbers_behind("floor", row, 2)
    check_floor(size[0], size[1])
    return size


def read_ground(row):
    return read_fraction(just_words_behind("ground", row, 1)[0])


def read_spots(row):
    spots = [read_spot(word) for word in words_behind("spots", row)]
    check_spots(spots)
    return spots


def read_spot(word):
    return tuple([read_number(number) for number in word.split(",")])


def picture_text(rows):
    words_by_row = [[fraction_word(fraction) for fraction in row] for row in rows]
    widest = max([max([len(word) for word in words]) for words in words_by_row])
    return "\n".join([" ".join([word.rjust(widest) for word in words]) for words in words_by_row])


def read_picture(text):
    check_text(text)
    rows = text.split("\n")
    picture = []
    for number in range(len(rows)):
        fractions = read_at(rows, number, read_fractions)
        if number > 0 and len(fractions) != len(picture[0]):
            raise NoRow(number)
        picture.append(fractions)
    return picture


def read_fractions(row):
    fractions = [read_fraction(word) for word in row.split(" ") if word != ""]
    if len(fractions) == 0:
        raise NoRow(0)
    return fractions
