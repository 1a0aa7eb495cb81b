import re
import unittest
from random import Random

from deepcuts.board import Board
from deepcuts.errors import BadLine, BadText, NoFrame, NoPlace, NoView, Outside
from deepcuts.forests import Forest
from deepcuts.pipelines import Pipeline
from deepcuts.steps import Step
from deepcuts.texts import board_in, board_text, program_of
from tests.boards import do, drawn_deed, state_of
from tests.pipes import drawn_pipeline, drawn_step, many_steps
from tests.things import path_of, row_of

MANY = 10 ** 40
LETTERS = "ab cdx=-*();.:1024\nfrom"
STEP = re.compile(r"(?P<kind>drop|unwrap|cut|rename) (?P<rest>.*)", re.DOTALL)
NAME = r"[a-z]{1,8}"
NUMBER = r"0|[1-9][0-9]*"


def is_step_text(text):
    """Whether a text is that of a Step, by the words of the document."""
    match = STEP.fullmatch(text)
    if match is None:
        return False
    kind, rest = match.groups()
    if kind == "cut":
        return re.fullmatch(r"[1-9][0-9]*", rest) is not None
    if kind == "rename":
        if rest == "-":
            return True
        pairs = rest.split(" ")
        if not all(re.fullmatch(f"{NAME}={NAME}", pair) for pair in pairs):
            return False
        pairs = [tuple(pair.split("=")) for pair in pairs]
        firsts = [first for first, _ in pairs]
        return firsts == sorted(set(firsts)) and all(first != second for first, second in pairs)
    if rest in ("-", "*"):
        return True
    names = rest.removeprefix("* - ").split(" ")
    return all(re.fullmatch(NAME, name) for name in names) and names == sorted(set(names))


def is_pipeline_text(text):
    return text == "-" or all(is_step_text(part) for part in text.split("; "))


def items_in(text):
    """The Pipeline of the items of a program, by a reader that goes on letter by letter; None if it is no program."""
    found, rest = read_items(text, 0)
    return found if rest == "" else None


def read_items(text, depth):
    """The pair (Pipeline, rest) of the items at the beginning of a text; (None, text) if there are none."""
    made = Pipeline()
    while True:
        if text.startswith("("):
            inner, rest = (None, text) if depth == 20 else read_items(text[1:], depth + 1)
            match = re.match(rf"\) x ({NUMBER})(?=; |\)|$)", rest)
            if inner is None or match is None:
                return None, text
            made, text = made >> inner * int(match.group(1)), rest[match.end():]
        else:
            match = re.match(r"[^();]+", text)
            if match is None or not is_step_text(match.group()):
                return None, text
            made, text = made >> Step.of(match.group()), text[match.end():]
        if not text.startswith("; "):
            return made, text
        text = text[2:]


def plain_program(text):
    if text == "-":
        return Pipeline()
    if text.endswith("\n"):
        return None
    return items_in(text)


def drawn_program(random, depth=3):
    """A text of a program other than -."""
    items = []
    for _ in range(random.randint(1, 3)):
        if depth and random.random() < 0.4:
            items.append(f"({drawn_program(random, depth - 1)}) x {random.choice([0, 1, 2, 3, 7, MANY])}")
        else:
            items.append(drawn_step(random, list("abc"), 5).text)
    return "; ".join(items)


def spoilt(random, text):
    """The text with one character put in, left out or exchanged."""
    at = random.randrange(len(text) + 1)
    word = random.choice(LETTERS)
    return text[:at] + random.choice([word + text[at:], text[at + 1:], word + text[at + 1:]])


class Programs(unittest.TestCase):
    def refused(self, text):
        with self.assertRaises(BadText) as caught:
            program_of(text)
        self.assertEqual(vars(caught.exception), {})

    def test_drawn_ones(self):
        random = Random(151)
        for _ in range(500):
            text = drawn_program(random)
            found = program_of(text)
            self.assertEqual(found, items_in(text), text)
            self.assertEqual(found.text, found.plain.text)

    def test_drawn_ones_with_one_character_spoilt(self):
        random = Random(152)
        seen = [0, 0]
        for _ in range(4000):
            text = spoilt(random, drawn_program(random, 2))
            wanted = plain_program(text)
            if wanted is None:
                self.refused(text)
            else:
                self.assertEqual(program_of(text), wanted, text)
            seen[wanted is None] += 1
        self.assertGreater(min(seen), 300)

    def test_how_often(self):
        ring = "rename a=b b=c c=d d=a"
        for many in (0, 1, 2, 3, 4, 5, 10 ** 20 + 3, MANY, MANY + 1):
            self.assertEqual(program_of(f"({ring}) x {many}"), Pipeline.of(ring) * (many % 4))
        self.assertEqual(program_of("(drop a) x 0").text, "-")
        self.assertEqual(program_of("(drop *) x 0; cut 3").text, "cut 3")
        self.assertEqual(program_of("((rename a=b b=a) x 3; cut 2) x 5").text, "cut 2; rename a=b b=a")
        self.assertEqual(program_of(f"((({ring}) x {MANY + 1}) x {MANY + 1}) x {MANY + 1}").text, ring)
        self.assertEqual(program_of("((drop a) x 0) x 7; (unwrap b) x 1").text, "unwrap b")

    def test_texts_of_pipelines(self):
        random = Random(153)
        for _ in range(300):
            pipeline = drawn_pipeline(random, list("abc"))
            self.assertEqual(program_of(pipeline.text).text, pipeline.plain.text)
        self.assertEqual(program_of("-").text, "-")

    def test_texts_that_are_none(self):
        wrong = ["", " ", "--", "- ", " -", "()", "() x 2", "(-) x 2", "-; cut 1", "cut 1; -", "(cut 1)", "(cut 1) x", "(cut 1) x ",
                 "(cut 1)x 2", "(cut 1) x2", "(cut 1)  x 2", "(cut 1) X 2", "(cut 1) x 02", "(cut 1) x -1", "(cut 1) x +1",
                 "(cut 1) x 1.", "(cut 1) x 2 ", " (cut 1) x 2", "(cut 1) x 2;cut 1", "(cut 1) x 2; ", "; cut 1", "cut 1;",
                 "(cut 1 ) x 2", "( cut 1) x 2", "(cut 1; ) x 2", "((cut 1) x 2", "(cut 1)) x 2", "(cut 1) x 2)", "cut 1) x 2",
                 "(cut 1 x 2", "(cut 1) x 2 x 3", "(cut 1) x (2) x 3", "(cut 1) x 2(cut 2) x 3", "(cut 1) x a", "(cut 1) x 2\n",
                 "(cut 0) x 2", "(cut 1)", "((cut 1)) x 2", "(cut 1, cut 2) x 2", "drop a x 2", "drop b a", "drop a\n; cut 1",
                 ")(", ")cut 1(", "cut 1; ) x 2; (cut 2", "cut 1) x 2; (cut 2", "(cut 1) x 2; (cut 2) x", "unwrap span script"]
        for text in wrong:
            with self.subTest(text=text):
                self.refused(text)

    def test_brackets_twenty_deep_and_deeper(self):
        for depth in range(1, 26):
            for many in (1, 2):
                text = "cut 3"
                for _ in range(depth):
                    text = f"({text}) x {many}"
                if depth <= 20:
                    self.assertEqual(program_of(text).text, "cut 3")
                    self.assertEqual(program_of(f"{text}; {text}; drop a").text, "drop a; cut 3")
                else:
                    self.refused(text)
                    self.refused(f"cut 2; {text}")
                    self.refused(f"(cut 2) x 2; {text}")
        self.refused("(" * 1000)
        self.refused("(" * 400 + "cut 1" + ") x 1" * 100)
        deep = "rename a=b b=a"
        for _ in range(20):
            deep = f"({deep}) x {MANY + 1}"
        self.assertLess(len(deep), 1000)
        self.assertEqual(program_of(deep).text, "rename a=b b=a")

    def test_a_thousand_characters(self):
        text = "; ".join(["(cut 9; drop a) x 12"] * 45)
        self.assertEqual(program_of(text).text, "drop a; cut 9")
        self.assertLess(len(text), 1000)


def drawn_board(random):
    """A Board on which some deeds have been done."""
    board = Board()
    for _ in range(random.randint(0, 25)):
        try:
            do(board, drawn_deed(random, "abc"))
        except (NoView, NoFrame, NoPlace, Outside):
            pass
    return board


def wrong_line(text):
    """The number of the first wrong line of the text of a Board, by the words of the document; None if it has none."""
    board, last = Board(), (0, "")
    lines = text.split("\n")
    for number, line in enumerate(lines):
        view = re.fullmatch(rf"({NAME}): (.*)", line)
        frame = re.fullmatch(rf"({NAME}) from (.*) \.\. (.*)", line)
        if view and is_pipeline_text(view[2]) and last < (1, view[1]):
            last = 1, view[1]
            board[view[1]] = Pipeline.of(view[2])
        elif frame and last[0] < 3 and last < (2, frame[1]) and framed(board, *frame.groups()):
            last = 2, frame[1]
        elif line.startswith("house ") and is_pipeline_text(line[6:]) and last[0] < 3:
            last = 3, ""
        elif line.startswith("page ") and is_page_text(line[5:]) and last[0] == 3:
            last = 4, ""
        else:
            return number
    return None if last[0] == 4 else len(lines)


def framed(board, name, low, high):
    """Whether this can be the frame of the view."""
    ends = [Pipeline() if text == "*" else Pipeline.of(text) for text in (low, high) if text == "*" or is_pipeline_text(text)]
    if len(ends) < 2 or name not in board:
        return False
    if any(text != "*" and text != end.plain.text for text, end in zip((low, high), ends)):
        return False
    return (low == "*" or ends[0].within(board[name])) and (high == "*" or board[name].within(ends[1]))


def is_page_text(text):
    try:
        return Forest.of(text).text == text
    except BadText:
        return False


class Boards(unittest.TestCase):
    def refused(self, text, number):
        with self.assertRaises(BadLine) as caught:
            board_in(text)
        self.assertEqual(vars(caught.exception), {"number": number}, text)

    def test_drawn_ones_back_and_forth(self):
        random = Random(154)
        frames = 0
        for _ in range(400):
            board = drawn_board(random)
            text = board_text(board)
            found = board_in(text)
            self.assertEqual(found, board, text)
            self.assertEqual(board_text(found), text)
            self.assertEqual(state_of(found), state_of(board))
            self.assertIs(found.undo(), False)
            frames += len(board.frames)
        self.assertGreater(frames, 50)

    def test_drawn_ones_with_one_character_spoilt(self):
        random = Random(155)
        seen = {}
        for _ in range(3000):
            text = spoilt(random, board_text(drawn_board(random)))
            number = wrong_line(text)
            if number is None:
                self.assertEqual(board_text(board_in(text)), text)
            else:
                self.refused(text, number)
            seen[number] = seen.get(number, 0) + 1
        self.assertGreater(len(seen), 6)
        self.assertGreater(seen[None], 50)

    def test_drawn_ones_with_lines_exchanged(self):
        random = Random(156)
        seen = {}
        for _ in range(1500):
            lines = board_text(drawn_board(random)).split("\n")
            if random.random() < 0.5:
                random.shuffle(lines)
            else:
                lines[random.randrange(len(lines))] = random.choice(lines)
            text = "\n".join(lines[:random.randint(1, len(lines) + 3)])
            number = wrong_line(text)
            if number is None:
                self.assertEqual(board_text(board_in(text)), text)
            else:
                self.refused(text, number)
            seen[number] = seen.get(number, 0) + 1
        self.assertGreater(len(seen), 5)

    def test_a_line_for_each_part(self):
        board = Board()
        self.assertEqual(board_text(board), "house -\npage -")
        board.attempt((("put", None, "a"), ("put", 0, "b"), ("set", "z", Pipeline.of("cut 3; cut 5")), ("set", "y", Pipeline()),
                       ("frame", "z", Pipeline.of("cut 1; unwrap x"), None), ("frame", "y", None, None),
                       ("turn", Pipeline.of("drop -"))))
        told = "y: -\nz: cut 3; cut 5\ny from * .. *\nz from drop x; cut 1 .. *\nhouse drop -\npage a(b)"
        self.assertEqual(board_text(board), told)
        self.assertEqual(board_in(told), board)

    def test_views_called_by_the_words_of_the_text(self):
        text = "from: cut 1\nhouse: cut 2\npage: drop a\nx: -\nfrom from * .. *\nhouse from cut 1 .. *\npage from * .. -\nhouse cut 3\n" \
               "page from(house page) x"
        board = board_in(text)
        self.assertEqual((board.names, board.house.text, board.page.text),
                         (("from", "house", "page", "x"), "cut 3", "from(house page) x"))
        self.assertEqual(board_text(board), text)

    def test_the_first_line_that_is_wrong(self):
        rows = [("", 0), ("\n", 0), ("-", 0), ("house -", 1), ("page -", 0), ("page -\nhouse -", 0), ("house -\npage -\n", 2),
                ("house -\npage -\npage -", 2), ("house -\nhouse -\npage -", 1), ("a: -", 1), ("a: -\n", 1), ("a: -\nb: -", 2),
                ("b: -\na: -\nhouse -\npage -", 1), ("a: -\na: -\nhouse -\npage -", 1), ("a:-\nhouse -\npage -", 0),
                ("a : -\nhouse -\npage -", 0), (" a: -\nhouse -\npage -", 0), ("a: - \nhouse -\npage -", 0),
                ("A: -\nhouse -\npage -", 0), (": -\nhouse -\npage -", 0), ("a: b: -\nhouse -\npage -", 0),
                ("a: cut 0\nhouse -\npage -", 0), ("a: \nhouse -\npage -", 0), ("a: (cut 1) x 2\nhouse -\npage -", 0),
                ("a from * .. *\nhouse -\npage -", 0), ("a: -\nb from * .. *\nhouse -\npage -", 1),
                ("a: -\na from * .. *\na from * .. *\nhouse -\npage -", 2), ("a: -\nhouse -\na from * .. *\npage -", 2),
                ("a: -\na from * .. *\nb: -\nhouse -\npage -", 2), ("a: -\na from - .. *\nhouse -\npage -", None),
                ("a: -\na from * .. cut 1\nhouse -\npage -", 1), ("a: cut 2\na from cut 3 .. *\nhouse -\npage -", 1),
                ("a: cut 1\na from * .. cut 2; cut 3\nhouse -\npage -", 1), ("a: cut 1\na from * .. drop -\nhouse -\npage -", 1),
                ("a: cut 1\na from unwrap * .. *\nhouse -\npage -", 1), ("a: cut 1\na from * ..  *\nhouse -\npage -", 1),
                ("a: cut 1\na from *  .. *\nhouse -\npage -", 1), ("a: cut 1\na from * .. * .. *\nhouse -\npage -", 1),
                ("a: cut 1\na from * ..\nhouse -\npage -", 1), ("a: cut 1\na  from * .. *\nhouse -\npage -", 1),
                ("a: -\nb: -\nb from * .. *\na from * .. *\nhouse -\npage -", 3), ("a: -\nhouse -\nb: -\npage -", 2),
                ("house\npage -", 0), ("house \npage -", 0), ("house -\npage", 1), ("house -\npage ", 1), ("house -\npage a()", 1),
                ("house - \npage -", 0), ("house  -\npage -", 0), ("House -\npage -", 0), ("house -\npage a\na: -", 2),
                ("house -\n\npage -", 1), ("house cut 0\npage a()", 0), ("house -\npage -\n\n", 2)]
        for text, number in rows:
            self.assertEqual(wrong_line(text), number, text)
            if number is None:
                self.assertEqual(board_text(board_in(text)), text)
            else:
                self.refused(text, number)

    def test_sixty_lines_of_a_thousand_characters(self):
        names, pipeline = many_steps(0)
        board = Board()
        deeds = [("set", name, pipeline) for name in "abcdefgh"]
        deeds += [("frame", name, Pipeline.of("drop *"), pipeline) for name in "abcdefgh"]
        board.attempt(deeds + [("put", None, "a")])
        self.assertEqual(board_in(board_text(board)), board)
        page = Forest(path_of(("a",) * 60) * 4 + row_of("b", 60))
        self.assertEqual(board_in(f"house -\npage {page.text}").page, page)
        self.assertEqual(len(names), 40)

    def test_arguments_by_the_names_shown(self):
        self.assertEqual(program_of(text="cut 1; cut 1").text, "cut 1")
        self.assertEqual(board_text(board=board_in(text="house -\npage a")), "house -\npage a")

    def test_a_board_that_is_written_does_not_change(self):
        board = drawn_board(Random(157))
        before = state_of(board)
        self.assertEqual(board_text(board), board_text(board))
        self.assertEqual(state_of(board), before)


if __name__ == "__main__":
    unittest.main()
