"""A desk: requests in a text, done one after another with a Board."""

from deepcuts.board import Board
from deepcuts.errors import BadLine, BadText, NoView, Stopped
from deepcuts.lines import frame_in, name_in, split_at
from deepcuts.numerals import number_in
from deepcuts.pipelines import Pipeline
from deepcuts.steps import Step


def given_name(text):
    """What a request is given by a NAME."""
    return (name_in(text),)


def given_pipeline(text):
    """What a request is given by the text of a Pipeline."""
    return (Pipeline.of(text),)


def given_named_pipeline(text):
    """What a request is given by a NAME and the text of a Pipeline."""
    name, rest = split_at(text, " ")
    return name_in(name), Pipeline.of(rest)


def given_named_step(text):
    """What a request is given by a NAME and the text of a Step."""
    name, rest = split_at(text, " ")
    return name_in(name), Step.of(rest)


def given_place(text):
    """What a request is given by a place."""
    return (number_in(text),)


def given_label(text):
    """What a request is given by a place and a LABEL."""
    place, label = split_at(text, " ")
    return number_in(place), name_in(label)


def given_new_label(text):
    """What a request is given by a place, or *, and a LABEL."""
    place, label = split_at(text, " ")
    return (None if place == "*" else number_in(place)), name_in(label)


def given_label_of_name(text):
    """What a request is given by a text LABEL of NAME."""
    label, name = split_at(text, " of ")
    return name_in(label), name_in(name)


def given_frame(text):
    """What a request is given by a text NAME from LOW .. HIGH."""
    return frame_in(text)


# What stands behind the first word of a request, if anything does.
GIVEN = {"view": given_named_pipeline, "leave": given_name, "lift": given_name, "step": given_named_step,
         "frame": given_frame, "house": given_pipeline, "put": given_new_label, "call": given_label,
         "take": given_place, "unwrap": given_place, "shown": given_name, "seen": given_name,
         "effect": given_named_pipeline, "room": given_label_of_name}
ALONE = ("page", "common", "unseen", "idle", "undo")

# The words of the deeds that a Board attempts.
DEEDS = {"view": "set", "leave": "leave", "lift": "lift", "step": "step", "frame": "frame", "house": "turn",
         "put": "put", "call": "call", "take": "take", "unwrap": "unwrap"}


def request_in(line):
    """The pair (word, given) of the request in this line."""
    if line in ALONE:
        return line, ()
    word, rest = split_at(line, " ")
    if word not in GIVEN:
        raise BadText()
    reader = GIVEN[word]
    return word, reader(rest)


def spaced(parts):
    """Places or NAMEs with blanks between, - for none."""
    return " ".join([str(part) for part in parts]) or "-"


def page_text(board):
    """The text of the page."""
    return board.page.text


def shown_text(board, name):
    """The text of what the view shows."""
    return board.shown(name).text


def seen_text(board, name):
    """The places that the view shows."""
    return spaced(board.seen(name))


def common_text(board):
    """The places that all views show."""
    return spaced(board.common())


def unseen_text(board):
    """The places that no view shows."""
    return spaced(board.unseen())


def idle_text(board):
    """The NAMEs of the views that can go."""
    return spaced(board.idle())


def effect_text(board, name, pipeline):
    """What compare tells of the view and this Pipeline."""
    return board.effect(name, pipeline)


def room_text(board, label, name):
    """The room of the label in the view."""
    room = board[name].room(label)
    return "*" if room is None else str(room)


def undo_text(board):
    """Whether there was a deed to take back."""
    return "yes" if board.undo() else "no"


QUESTIONS = {"page": page_text, "shown": shown_text, "seen": seen_text, "common": common_text, "unseen": unseen_text,
             "idle": idle_text, "effect": effect_text, "room": room_text, "undo": undo_text}


def answer(board, word, given):
    """The answer to a request."""
    if word in DEEDS:
        return deed_answer(board, (DEEDS[word],) + given)
    question = QUESTIONS[word]
    try:
        return question(board, *given)
    except NoView:
        return "refused NoView"


def deed_answer(board, deed):
    """The answer to a request to do this deed."""
    try:
        board.attempt((deed,))
    except Stopped as error:
        return f"refused {error.raised}"
    return "done"


def answers(text):
    """The answers to the requests of the text, one in a line."""
    if text == "":
        return []
    requests = []
    for number, line in enumerate(text.split("\n")):
        try:
            requests.append(request_in(line))
        except BadText:
            raise BadLine(number)
    board = Board()
    return [answer(board, word, given) for word, given in requests]
