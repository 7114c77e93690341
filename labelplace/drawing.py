"""Settings drawn, one sign for each cell of the sheet, and read back."""

from labelplace.boxes import cells_of
from labelplace.errors import NoDrawing
from labelplace.settings import boxes_of, is_setting
from labelplace.words import LETTERS


def kept_signs(plan):
    signs = {}
    for box in plan[2]:
        for cell in cells_of(box):
            signs[cell] = "#"
    return signs


# The letters are laid over the kept cells' signs, since a point may lie on a kept cell.
def signs_of(plan, setting):
    signs = kept_signs(plan)
    for number, point in enumerate(plan[3]):
        signs[(point[1], point[2])] = LETTERS[number].upper()
        if setting[number] is not None:
            for cell in cells_of(boxes_of(point)[setting[number]]):
                signs[cell] = LETTERS[number]
    return signs


def drawn(plan, setting):
    signs = signs_of(plan, setting)
    lines = []
    for y in range(plan[1]):
        lines.append("".join([signs.get((x, y), ".") for x in range(plan[0])]))
    return "\n".join(lines)


def cells_with(text, sign):
    cells = []
    for y, line in enumerate(text.split("\n")):
        cells.extend([(x, y) for x, found in enumerate(line) if found == sign])
    return cells


# Both lists of cells go line by line from above, so they can be held against one another as they are.
def place_with(point, cells):
    for place, box in enumerate(boxes_of(point)):
        if cells_of(box) == cells:
            return place
    return None


# The small letters alone tell the setting; drawn again it shows whether all other signs were right too,
# and whether there were letters that are no place's box.
def read_back(plan, text):
    if not isinstance(text, str):
        raise NoDrawing()
    setting = []
    for number, point in enumerate(plan[3]):
        setting.append(place_with(point, cells_with(text, LETTERS[number])))
    if not is_setting(plan, setting) or drawn(plan, setting) != text:
        raise NoDrawing()
    return setting
