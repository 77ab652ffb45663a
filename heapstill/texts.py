"""Nets and rows told by texts, and read again."""

from heapstill.errors import NoText
from heapstill.nets import made_net

FIGURES = "0123456789"
MOST_FIGURES = 18
MOST_ALIKE = 40
ROAD = "-"
LANE = ">"


def read_net(text):
    words = text_words(text)
    many = read_figure(words[0])
    roads = []
    lanes = []
    # All words are read ahead of made_net: what is no text anywhere is refused for that first.
    for word in words[1:]:
        ways = lanes if word[1:2] == LANE else roads
        ways.extend(read_ways(word))
    return made_net(many, roads, lanes)


def text_words(text):
    if not isinstance(text, str):
        raise NoText("this is no text")
    return text.split(" ")


def read_ways(word):
    parts = word.partition("*")
    way = parts[0]
    if len(way) != 3 or way[1] not in (ROAD, LANE):
        raise NoText("a way is told by a figure, - or > and another figure")
    alike = read_alike(parts[2]) if parts[1] else 1
    return [(read_figure(way[0]), read_figure(way[2]))] * alike


def read_figure(sign):
    if len(sign) != 1:
        raise NoText("a number in a net's text has one figure")
    return read_number(sign)


def read_alike(word):
    alike = read_number(word)
    if alike < 2 or alike > MOST_ALIKE:
        raise NoText("from 2 to 40 alike ways are told by one word")
    return alike


def read_number(word):
    figures = word[1:] if word.startswith("-") else word
    # Each sign is looked up by itself: Python's own reading takes figures of other scripts, blanks and _ too.
    if any([sign not in FIGURES for sign in figures]):
        raise NoText("a number has figures from 0 to 9 alone, or - ahead of them")
    if len(figures) < 1 or len(figures) > MOST_FIGURES:
        raise NoText("a number has from one to eighteen figures")
    if figures[0] == "0" and word != "0":
        raise NoText("a number has no nought ahead, and 0 no -")
    return int(word)


def net_text(net):
    words = [str(net[0])] + way_words(net[1], ROAD) + way_words(net[2], LANE)
    return " ".join(words)


def way_words(ways, mark):
    words = []
    alike = 0
    for at, way in enumerate(ways):
        alike += 1
        # A word is written where the last of those side by side is met.
        if ways[at + 1:at + 2] != [way]:
            words.append(way_word(way[0], mark, way[1], alike))
            alike = 0
    return words


def way_word(a, mark, b, alike):
    if alike == 1:
        return f"{a}{mark}{b}"
    return f"{a}{mark}{b}*{alike}"


def read_row(text):
    words = text_words(text)
    # The text without signs is cut into one empty word, but tells no number.
    if words == [""]:
        return []
    return [read_number(word) for word in words]


def row_text(row):
    return " ".join([str(number) for number in row])
