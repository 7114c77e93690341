"""A desk: a board that is told rows of words and answers each with a text."""

from labelplace.board import Board
from labelplace.drawing import drawn
from labelplace.errors import NoDeed
from labelplace.parts import parts
from labelplace.plans import refuse_unknown, sheet_plan, with_kept
from labelplace.settings import barred_by, loss_of
from labelplace.twos import all_set
from labelplace.words import is_name, numbers_in, point_in


# What reads a row's words tells None where they are none of the kind.
def known(value):
    if value is None:
        raise NoDeed()
    return value


def name_in(words):
    if len(words) != 2 or not is_name(words[1]):
        raise NoDeed()
    return words[1]


def move_in(words):
    cell = numbers_in(words[2:])
    if cell is None or len(cell) != 2 or not is_name(words[1]):
        raise NoDeed()
    return (words[1], cell[0], cell[1])


def new_plan(plan, words):
    if words[0] == "sheet":
        return known(sheet_plan(words))
    return known(with_kept(plan, words[1:]))


def renewed_names(board, words):
    if words[0] == "put":
        return board.put(known(point_in(words[1:])))
    if words[0] == "move":
        move = move_in(words)
        return board.move(move[0], move[1], move[2])
    return board.drop(name_in(words))


def way_of(board, name):
    plan = board.plan()
    refuse_unknown(plan, name)
    for point, place in zip(plan[3], board.setting()):
        if point[0] == name and place is not None:
            return point[4][place][0]
    return "out"


def bar_word(bar):
    if bar is None:
        return "free"
    return ":".join([str(part) for part in bar])


def bar_words(board, name):
    refuse_unknown(board.plan(), name)
    return " ".join([bar_word(bar) for bar in barred_by(board.plan(), board.setting(), name)])


def all_words(plan):
    chain = all_set(plan)[1]
    if chain is None:
        return "yes"
    return " ".join(["no"] + [f"{name}:{place}" for name, place in chain])


def part_words(plan):
    return " ".join(["+".join(part) for part in parts(plan)])


def answer_of(board, words):
    if words == ["loss"]:
        return str(loss_of(board.plan(), board.setting()))
    if words == ["all"]:
        return all_words(board.plan())
    if words == ["parts"]:
        return part_words(board.plan())
    if words == ["draw"]:
        return drawn(board.plan(), board.setting()).replace("\n", "/")
    if words[0] == "place":
        return way_of(board, name_in(words))
    if words[0] == "why":
        return bar_words(board, name_in(words))
    raise NoDeed()


class Desk:
    def __init__(self):
        self.board = Board((1, 1, (), ()))

    def say(self, row):
        if not isinstance(row, str):
            raise NoDeed()
        words = row.split(" ")
        if words[0] in ("sheet", "keep"):
            self.board = Board(new_plan(self.board.plan(), words))
            return "ok"
        if words[0] in ("put", "move", "drop"):
            return " ".join(renewed_names(self.board, words))
        return answer_of(self.board, words)
