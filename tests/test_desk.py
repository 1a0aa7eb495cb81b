import re
import unittest
from random import Random

from deepcuts.board import Board
from deepcuts.desk import answers
from deepcuts.errors import BadLine, NoFrame, NoPlace, NoView, Outside
from deepcuts.pipelines import Pipeline
from tests.boards import drawn_deed
from tests.pipes import drawn_pipeline
from tests.test_texts import NAME, NUMBER, is_pipeline_text, is_step_text, spoilt

MANY = 10 ** 40
DEEDS = {"set": "view {0} {1}", "leave": "leave {0}", "step": "step {0} {1}", "frame": "frame {0} from {1} .. {2}",
         "lift": "lift {0}", "turn": "house {0}", "put": "put {0} {1}", "take": "take {0}", "unwrap": "unwrap {0}",
         "call": "call {0} {1}"}


def told(value):
    """A part of a deed as a request has it."""
    return "*" if value is None else value.text if hasattr(value, "text") else str(value)


def drawn_request(random):
    """The text of a request, which may be refused."""
    if random.random() < 0.65:
        deed = drawn_deed(random, "ab")
        while any(isinstance(part, int) and part < 0 for part in deed):
            deed = drawn_deed(random, "ab")
        return DEEDS[deed[0]].format(*[told(part) for part in deed[1:]])
    name, view = random.choice("abc"), drawn_pipeline(random, ["a", "b", "x"], 3, 4)
    return random.choice(["page", "common", "unseen", "idle", "undo", f"shown {name}", f"seen {name}",
                          f"effect {name} {view.text}", f"room {random.choice('abx')} of {name}"])


def spaced(parts):
    return " ".join(map(str, parts)) or "-"


def by_hand(board, line):
    """The answer that the Board gives to a request, by its own methods."""
    word, *rest = line.split(" ")
    behind = line.partition(" ")[2].partition(" ")[2]
    if word in ("page", "common", "unseen", "idle", "undo"):
        return {"page": lambda: board.page.text, "common": lambda: spaced(board.common()),
                "unseen": lambda: spaced(board.unseen()), "idle": lambda: spaced(board.idle()),
                "undo": lambda: "yes" if board.undo() else "no"}[word]()
    try:
        if word == "shown":
            return board.shown(rest[0]).text
        if word == "seen":
            return spaced(board.seen(rest[0]))
        if word == "effect":
            return board.effect(rest[0], Pipeline.of(behind))
        if word == "room":
            return str(board[rest[2]].room(rest[0])).replace("None", "*")
        do_by_hand(board, word, rest, behind)
    except (NoView, NoFrame, NoPlace, Outside) as error:
        return "refused " + type(error).__name__
    return "done"


def do_by_hand(board, word, rest, behind):
    if word == "view":
        board[rest[0]] = Pipeline.of(behind)
    elif word == "step":
        board += (rest[0], Pipeline.of(behind)[0])
    elif word == "frame":
        low, high = behind.removeprefix("from ").split(" .. ")
        board.frame(rest[0], *[None if end == "*" else Pipeline.of(end) for end in (low, high)])
    elif word == "house":
        board.turn(Pipeline.of(" ".join(rest)))
    elif word in ("leave", "lift"):
        getattr(board, word)(rest[0])
    else:
        place = None if rest[0] == "*" else int(rest[0])
        getattr(board, word)(place, *rest[1:])


def is_request(line):
    """Whether a line is a request, by the words of the document."""
    if re.fullmatch(rf"page|common|unseen|idle|undo|(leave|lift|shown|seen) {NAME}|room {NAME} of {NAME}", line):
        return True
    if re.fullmatch(rf"(put|call) ({NUMBER}) {NAME}|put \* {NAME}|(take|unwrap) ({NUMBER})", line):
        return True
    match = re.fullmatch(rf"(?:(?:view|effect) {NAME}|house) (.*)", line)
    if match:
        return is_pipeline_text(match[1])
    match = re.fullmatch(rf"step {NAME} (.*)", line)
    if match:
        return is_step_text(match[1])
    match = re.fullmatch(rf"frame {NAME} from (.*) \.\. (.*)", line)
    return match is not None and all(end == "*" or is_pipeline_text(end) for end in match.groups())


class Answers(unittest.TestCase):
    def test_drawn_requests_as_done_by_hand(self):
        random = Random(161)
        seen = {}
        for _ in range(150):
            lines = [drawn_request(random) for _ in range(random.randint(1, 60))]
            board = Board()
            wanted = [by_hand(board, line) for line in lines]
            found = answers("\n".join(lines))
            self.assertEqual(found, wanted, lines)
            self.assertIsInstance(found, list)
            for line, answer in zip(lines, found):
                seen.setdefault(line.split(" ")[0], set()).add(answer)
        self.assertEqual(len(seen), 19)
        for word in ("view", "step", "frame"):
            self.assertLessEqual({"done", "refused Outside"}, seen[word])
        for word in ("leave", "lift", "step", "frame"):
            self.assertLessEqual({"done", "refused NoView"}, seen[word])
        for word in ("put", "take", "unwrap", "call"):
            self.assertEqual({"done", "refused NoPlace"}, seen[word])
        self.assertIn("refused NoFrame", seen["lift"])
        self.assertEqual(seen["undo"], {"yes", "no"})
        for word in ("shown", "seen", "effect", "room"):
            self.assertIn("refused NoView", seen[word])
            self.assertGreater(len(seen[word]), 4)

    def test_each_request(self):
        rows = [("put * a", "done"), ("put 0 b", "done"), ("put 1 x", "done"), ("page", "a(b(x))"), ("view r unwrap b", "done"),
                ("seen r", "0 2"), ("shown r", "a(x)"), ("common", "0 2"), ("unseen", "1"), ("room b of r", "*"),
                ("room a of r", "*"), ("house cut 2", "done"), ("seen r", "0"), ("shown r", "a"), ("room b of r", "*"),
                ("step r cut 4", "done"), ("room b of r", "*"), ("room x of r", "3"), ("view q -", "done"), ("idle", "r"),
                ("effect r unwrap b", "within"), ("frame r from * .. unwrap b", "done"), ("view r -", "refused Outside"),
                ("frame r from drop * .. *", "done"), ("view r -", "done"), ("frame q from - .. -", "done"),
                ("step q cut 9", "refused Outside"), ("frame q from * .. cut 1", "refused Outside"), ("lift q", "done"),
                ("lift q", "refused NoFrame"), ("lift z", "refused NoView"), ("leave z", "refused NoView"), ("leave q", "done"),
                ("seen q", "refused NoView"), ("shown q", "refused NoView"), ("effect q -", "refused NoView"),
                ("room a of q", "refused NoView"), ("step q cut 1", "refused NoView"), ("frame q from * .. *", "refused NoView"),
                ("call 2 y", "done"), ("page", "a(b(y))"), ("take 3", "refused NoPlace"), ("unwrap 3", "refused NoPlace"),
                ("call 3 y", "refused NoPlace"), ("put 3 y", "refused NoPlace"), (f"put {MANY} y", "refused NoPlace"),
                ("unwrap 0", "done"), ("page", "b(y)"), ("undo", "yes"), ("page", "a(b(y))"), ("take 1", "done"), ("page", "a"),
                ("leave r", "done"), ("idle", "-"), ("common", "-"), ("unseen", "0"), ("take 0", "done"), ("page", "-")]
        found = answers("\n".join([line for line, _ in rows]))
        for (line, wanted), answer in zip(rows, found):
            self.assertEqual(answer, wanted, line)
        self.assertEqual(len(found), len(rows))

    def test_refused_requests_are_no_deeds(self):
        self.assertEqual(answers("put * a\ntake 1\nleave b\nlift b\nundo\nundo\npage"),
                         ["done", "refused NoPlace", "refused NoView", "refused NoView", "yes", "no", "-"])

    def test_names_like_the_words_of_requests(self):
        lines = ["view from cut 1", "frame from from * .. *", "view of -", "room of of of", "leave leave", "view view drop view",
                 "seen view", "put * put", "call 0 call", "page"]
        self.assertEqual(answers("\n".join(lines)), ["done", "done", "done", "*", "refused NoView", "done", "-", "done", "done",
                                                     "call"])

    def test_the_empty_text(self):
        self.assertEqual(answers(""), [])
        self.assertIsNot(answers(""), answers(""))
        found = answers("page")
        found.append("x")
        self.assertEqual(answers(text="page"), ["-"])


class Wrong(unittest.TestCase):
    def refused(self, text, number):
        with self.assertRaises(BadLine) as caught:
            answers(text)
        self.assertEqual(vars(caught.exception), {"number": number}, text)

    def test_lines_that_are_no_requests(self):
        wrong = ["", " ", "pages", "page ", " page", "Page", "page all", "common a", "undo 1", "idle -", "leave", "leave ", "leave A",
                 "leave a b", "leave  a", "leave a ", "lift", "view", "view a", "view a ", "view A -", "view a cut", "view a cut 0",
                 "view a  -", "view a - ", "view a b -", "view -", "view a (cut 1) x 2", "step a -", "step a cut 1; cut 2", "step a",
                 "step a cut 01", "frame a", "frame a from", "frame a from *", "frame a from * ..", "frame a from * .. ",
                 "frame a * .. *", "frame a from * .. cut 0", "frame a from * - * .. *", "frame a from *..*", "frame from * .. *",
                 "frame a from  .. *", "frame a  from * .. *", "frame a from * .. *  ", "house", "house ", "house *", "house  -",
                 "put a", "put 0", "put 0 A", "put 00 a", "put -1 a", "put  a", "put * ", "put ** a", "put 0 a b", "put +1 a",
                 "call * a", "call 0", "call a 0", "call 1.0 a", "take", "take *", "take a", "take -1", "take 01", "take 1 2",
                 "unwrap *", "unwrap a", "unwrap ", "shown", "shown *", "seen a b", "seen", "effect a", "effect a *", "effect -",
                 "room a", "room a of", "room of a", "room a b", "room a of b c", "room a  of b", "room A of b", "room * of a",
                 "twin", "attempt", "set a -", "turn -", "done", "-", "#"]
        for line in wrong:
            with self.subTest(line=line):
                self.assertFalse(is_request(line))
                if line != "":
                    self.refused(line, 0)
                self.refused(f"page\n{line}\npage", 1)
                self.refused(f"page\nidle\n{line}", 2)
        self.refused("\n", 0)
        self.refused("page\n", 1)
        self.refused("x\ny", 0)

    def test_ahead_of_all_answers(self):
        self.refused("take 0\nleave a\nwrong\nworse", 2)

    def test_drawn_requests_with_one_character_spoilt(self):
        random = Random(162)
        seen = {}
        for _ in range(1500):
            text = spoilt(random, "\n".join([drawn_request(random) for _ in range(random.randint(1, 6))]))
            wrong = [number for number, line in enumerate(text.split("\n")) if not is_request(line)]
            if text == "" or not wrong:
                board = Board()
                self.assertEqual(answers(text), [by_hand(board, line) for line in text.split("\n")] if text else [])
            else:
                self.refused(text, wrong[0])
            seen[min(wrong, default=None)] = 1
        self.assertGreater(len(seen), 5)

    def test_sixty_lines(self):
        lines = ["put * a"] + [f"put {at} b" for at in range(57)] + ["view r cut 9", "seen r"]
        self.assertEqual(answers("\n".join(lines))[-1], "0 1 2 3 4 5 6 7 8")
        long = "view r " + "; ".join(["drop a"] * 124)
        self.assertEqual(answers("\n".join([long] * 60)), ["done"] * 60)


if __name__ == "__main__":
    unittest.main()
