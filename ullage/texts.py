"""Rooms, trees and papers as lines of text, and read from just such lines."""

from ullage.errors import NoLine
from ullage.shapes import MOST_PAGES
from ullage.trees import is_level, is_tree

FIGURES = "0123456789"
MOST_FIGURES = 20
NOTHING = "-"


def rooms_line(rooms):
    if rooms == []:
        return NOTHING
    return numbers_line(rooms)


def numbers_line(numbers):
    return " ".join([str(number) for number in numbers])


def tree_line(tree):
    if tree == []:
        return NOTHING
    return " / ".join([numbers_line(level) for level in tree])


def paper_line(paper):
    if paper == []:
        return NOTHING
    return " ".join([entry_word(entry) for entry in paper])


def entry_word(entry):
    return ":".join([str(number) for number in entry])


def is_number(word):
    if not 1 <= len(word) <= MOST_FIGURES:
        return False
    if not all([figure in FIGURES for figure in word]):
        return False
    return word == "0" or word[0] != "0"


def read_number(word):
    if not is_number(word):
        raise NoLine("this is no number")
    return int(word)


def read_numbers(line):
    return [read_number(word) for word in line.split(" ")]


def check_text(line):
    if not isinstance(line, str):
        raise NoLine("this is no text")


def read_rooms(line):
    check_text(line)
    if line == NOTHING:
        return []
    rooms = read_numbers(line)
    if len(rooms) > MOST_PAGES or not is_level(rooms):
        raise NoLine("this line writes no rooms")
    return rooms


def read_tree(line, fan):
    check_text(line)
    if line == NOTHING:
        return []
    tree = [read_numbers(part) for part in line.split(" / ")]
    if not is_tree(tree, fan):
        raise NoLine("this line writes no tree by the fan")
    return tree


def read_paper(line):
    check_text(line)
    if line == NOTHING:
        return []
    return [read_entry(word) for word in line.split(" ")]


def read_entry(word):
    words = word.split(":")
    if len(words) != 3:
        raise NoLine("this writes no tuple of three numbers")
    return (read_number(words[0]), read_number(words[1]), read_number(words[2]))
