"""Texts: rows, tellings and papers as lists of lines, and read again from just such lines."""

from lath.errors import NoLine, NoWord
from lath.rows import MOST
from lath.words import ratio_word, read_ratio, read_whole, whole_word

MOST_FIGURES = 2000


def show_entry(entry):
    value = "gap" if entry[1] is None else ratio_word(entry[1])
    return whole_word(entry[0]) + " " + value


def show_row(row):
    return [show_entry(entry) for entry in row]


def show_telling(telling):
    return [" ".join([ratio_word(part) for part in piece]) for piece in telling]


def show_wholes(numbers):
    return " ".join([whole_word(number) for number in numbers])


def show_paper(way, paper):
    if way == "apart" or way == "joined":
        return [show_wholes(three) for three in paper]
    lines = []
    for part in paper:
        lines.append("labels " + show_wholes(part[0]))
        lines.extend(["bar " + show_wholes(three) for three in part[1]])
    return lines


# The defs called .._of tell what one line writes, or None where it is no such line.


def entry_of(line):
    words = line.split(" ")
    if len(words) != 2:
        return None
    try:
        return (read_whole(words[0]), None if words[1] == "gap" else read_ratio(words[1]))
    except NoWord:
        return None


def piece_of(line):
    words = line.split(" ")
    if len(words) != 4:
        return None
    try:
        return tuple([read_ratio(word, MOST_FIGURES) for word in words])
    except NoWord:
        return None


def wholes_of(words):
    try:
        return [read_whole(word) for word in words]
    except NoWord:
        return None


def three_of(words):
    numbers = wholes_of(words)
    return tuple(numbers) if numbers is not None and len(numbers) == 3 else None


def read_row(lines):
    row = []
    for place, line in enumerate(lines):
        entry = entry_of(line)
        if entry is None or place >= MOST:
            raise NoLine(place)
        if place > 0 and entry[0] <= row[-1][0]:
            raise NoLine(place)
        row.append(entry)
    return row


def read_telling(lines):
    telling = []
    for place, line in enumerate(lines):
        piece = piece_of(line)
        if piece is None:
            raise NoLine(place)
        telling.append(piece)
    return telling


def read_threes(lines):
    paper = []
    for place, line in enumerate(lines):
        three = three_of(line.split(" "))
        if three is None:
            raise NoLine(place)
        paper.append(three)
    return paper


def read_parts(lines):
    paper = []
    for place, line in enumerate(lines):
        words = line.split(" ")
        numbers = wholes_of(words[1:])
        three = three_of(words[1:])
        if words[0] == "labels" and numbers is not None and len(numbers) > 0:
            paper.append((numbers, []))
        elif words[0] == "bar" and three is not None and len(paper) > 0:
            paper[-1][1].append(three)
        else:
            raise NoLine(place)
    return paper


def read_paper(way, lines):
    if way == "apart" or way == "joined":
        return read_threes(lines)
    return read_parts(lines)
