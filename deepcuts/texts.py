"""Texts of programs, and of Boards."""

from deepcuts.algebra import many_times, one_behind
from deepcuts.board import board_at, plain_text
from deepcuts.deeds import done, first_state
from deepcuts.errors import BadLine, BadText, NoView, Outside
from deepcuts.forests import Forest
from deepcuts.forms import pipeline_of
from deepcuts.lines import frame_in, name_in, split_at
from deepcuts.numerals import number_in
from deepcuts.pipelines import Pipeline
from deepcuts.rooms import UNCHANGED, form_of
from deepcuts.steps import Step

MOST_BRACKETS = 20

# The lines of the text of a Board stand in the order of pairs (part, NAME), these being the parts.
START = 0
VIEW = 1
FRAME = 2
HOUSE = 3
PAGE = 4


def program_of(text):
    """The plain form of the program with this text."""
    check_brackets(text)
    return pipeline_of(program_form(text))


def check_brackets(text):
    """Raises BadText if brackets stand too deep, so that no text is read deeper than that."""
    depth = 0
    for letter in text:
        if letter == "(":
            depth = depth + 1
        elif letter == ")":
            depth = depth - 1
        if depth > MOST_BRACKETS:
            raise BadText()


def program_form(text):
    """The FORM of the program with this text."""
    if text == "-":
        return UNCHANGED
    form = UNCHANGED
    for item in items_of(text):
        form = one_behind(form, item_form(item))
    return form


def items_of(text):
    """The parts of a text between those semicolons that stand in no brackets."""
    items = []
    depth = 0
    for part in text.split("; "):
        if depth > 0:
            items[-1] = f"{items[-1]}; {part}"
        else:
            items.append(part)
        depth = depth + part.count("(") - part.count(")")
    return items


def item_form(text):
    """The FORM of an item: of a Step, or of a program in brackets, so many times."""
    if not text.startswith("("):
        return form_of((Step.of(text),))
    inner, _, number = text[1:].rpartition(") x ")
    if inner == "-":
        raise BadText()
    return many_times(program_form(inner), number_in(number))


def end_text(text):
    """What a line has for an end of a frame with this text, or None."""
    return "*" if text is None else text


def frame_line(name, low, high):
    """The line of a frame between Pipelines with these texts, or None."""
    return f"{name} from {end_text(low)} .. {end_text(high)}"


def board_text(board):
    """The text from which `board_in` makes an equal Board."""
    lines = [f"{name}: {board[name].text}" for name in board.names]
    lines = lines + [frame_line(name, low, high) for name, low, high in board.frames]
    return "\n".join(lines + [f"house {board.house.text}", f"page {board.page.text}"])


def with_line(state, line):
    """The pair (place, state): where a line of the text of a Board stands in the order, and the state behind it."""
    page, house, views, frames = state
    if ": " in line:
        name, text = split_at(line, ": ")
        return (VIEW, name), done(state, ("set", name_in(name), Pipeline.of(text)))
    if " .. " in line:
        name, low, high = frame_in(line)
        if line != frame_line(name, plain_text(low), plain_text(high)):
            raise BadText()
        return (FRAME, name), done(state, ("frame", name, low, high))
    word, text = split_at(line, " ")
    if word == "house":
        return (HOUSE, ""), (page, Pipeline.of(text), views, frames)
    if word == "page":
        return (PAGE, ""), (Forest.of(text), house, views, frames)
    raise BadText()


def can_follow(place, last):
    """Whether a line that stands here in the order can be the next one behind that at the last place."""
    return place > last and (place[0] != PAGE or last[0] == HOUSE)


def board_in(text):
    """The Board with this text, with no deed to take back."""
    lines = text.split("\n")
    state = first_state()
    last = (START, "")
    for number, line in enumerate(lines):
        try:
            place, state = with_line(state, line)
        except (BadText, NoView, Outside):
            raise BadLine(number)
        if not can_follow(place, last):
            raise BadLine(number)
        last = place
    if last[0] != PAGE:
        raise BadLine(len(lines))
    return board_at(state)
