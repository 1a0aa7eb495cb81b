import unittest
from random import Random

from deepcuts.board import Board
from deepcuts.errors import NoFrame, NoPlace, NoView, Outside, Stopped
from deepcuts.forests import Forest
from deepcuts.pipelines import Pipeline
from deepcuts.steps import Step
from tests.boards import Model, do, drawn_deed, model_state, page_of, state_of
from tests.pipes import many_steps
from tests.things import path_of, row_of, scrambled

MANY = 10 ** 40
NOTHING = Pipeline.of("drop *")


def set_up(page="-", house="-", **views):
    """A Board with this page, house Pipeline and views."""
    board = Board()
    board.attempt(page_of(page))
    board.turn(Pipeline.of(house))
    for name, text in views.items():
        board[name] = Pipeline.of(text)
    return board


class ModelBeside(unittest.TestCase):
    """Drawn deeds on a Board and on a plain model of it."""

    def refused(self, board, deed, told):
        before = state_of(board)
        with self.assertRaises((NoView, NoFrame, NoPlace, Outside)) as caught:
            do(board, deed)
        self.assertEqual((type(caught.exception).__name__, *vars(caught.exception).values()), told, deed)
        self.assertEqual(list(vars(caught.exception)), ["place" if told[0] == "NoPlace" else "name"])
        self.assertEqual(state_of(board), before)

    def asked(self, board, model):
        self.assertEqual(state_of(board), model_state(model))
        self.assertEqual(board.names, tuple(sorted(model.views)))
        seen = []
        for name in board.names:
            self.assertIs(name in board, True)
            self.assertEqual(set(board.seen(name)), model.seen(name))
            self.assertEqual(list(board.seen(name)), sorted(model.seen(name)))
            self.assertEqual(board.shown(name).trees, model.shown(name))
            seen.append(model.seen(name))
        places = range(len(board.page))
        self.assertEqual(board.common(), tuple([at for at in places if seen and all(at in one for one in seen)]))
        self.assertEqual(board.unseen(), tuple([at for at in places if not any(at in one for one in seen)]))
        self.assertEqual(board.idle(), model.idle(), state_of(board))

    def test_drawn_deeds(self):
        random = Random(141)
        seen, refused, idle = {}, {}, 0
        for _ in range(60):
            board, model = Board(), Model()
            for _ in range(50):
                deed = drawn_deed(random)
                told = model.refusal(deed)
                if told is None:
                    do(board, deed)
                    model.do(deed)
                    seen[deed[0]] = seen.get(deed[0], 0) + 1
                else:
                    self.refused(board, deed, told)
                    refused[deed[0], told[0]] = refused.get((deed[0], told[0]), 0) + 1
                self.framed(board)
                if random.random() < 0.3:
                    self.asked(board, model)
                    idle += bool(board.idle())
            self.asked(board, model)
        self.assertEqual(len(seen), 10)
        self.assertLessEqual({("set", "Outside"), ("step", "Outside"), ("frame", "Outside"), ("lift", "NoFrame"),
                              ("lift", "NoView"), ("leave", "NoView"), ("step", "NoView"), ("frame", "NoView"),
                              ("put", "NoPlace"), ("take", "NoPlace"), ("unwrap", "NoPlace"), ("call", "NoPlace")},
                             set(refused))
        self.assertGreater(idle, 50)

    def framed(self, board):
        """Every view that has a frame is within it."""
        for name, low, high in board.frames:
            self.assertTrue(low is None or Pipeline.of(low).within(board[name]))
            self.assertTrue(high is None or board[name].within(Pipeline.of(high)))

    def test_undo_leads_back_through_all_states(self):
        random = Random(142)
        for _ in range(60):
            board = Board()
            states = [state_of(board)]
            for _ in range(30):
                if random.random() < 0.2:
                    done = board.undo()
                    self.assertIs(done, len(states) > 1)
                    states = states[:-1] if done else states
                elif random.random() < 0.3:
                    states += self.attempted(random, board)
                else:
                    deed = drawn_deed(random)
                    try:
                        do(board, deed)
                        states.append(state_of(board))
                    except (NoView, NoFrame, NoPlace, Outside):
                        pass
                self.assertEqual(state_of(board), states[-1])
                self.framed(board)
            while len(states) > 1:
                self.assertIs(board.undo(), True)
                states.pop()
                self.assertEqual(state_of(board), states[-1])
            self.assertIs(board.undo(), False)
            self.assertEqual(board, Board())

    def attempted(self, random, board):
        """Attempts some drawn deeds; the states that come of it, one or none."""
        deeds = tuple([drawn_deed(random) for _ in range(random.randint(0, 3))])
        twin, before, wanted = board.twin(), state_of(board), None
        for number, deed in enumerate(deeds):
            try:
                do(twin, deed)
            except (NoView, NoFrame, NoPlace, Outside) as error:
                wanted = number, type(error).__name__, *vars(error).values()
                break
        if wanted is None:
            self.assertIsNone(board.attempt(deeds))
            self.assertEqual(state_of(board), state_of(twin))
            return [state_of(board)]
        with self.assertRaises(Stopped) as caught:
            board.attempt(deeds)
        self.assertEqual(tuple(vars(caught.exception)), ("number", "raised", "value"))
        self.assertEqual(tuple(vars(caught.exception).values()), wanted)
        self.assertEqual(state_of(board), before)
        return []


class Questions(unittest.TestCase):
    def test_at_first(self):
        board = Board()
        self.assertEqual((board.page, board.house.text, board.names, board.frames, len(board)), (Forest(), "-", (), (), 0))
        self.assertEqual((board.common(), board.unseen(), board.idle(), board.undo(), "a" in board), ((), (), (), False, False))

    def test_no_view(self):
        board = set_up("a(b) c")
        self.assertEqual((board.common(), board.unseen(), board.idle()), ((), (0, 1, 2), ()))

    def test_views_that_are_not_there(self):
        board = set_up("a", reader="-")
        for name in ("a", "readers", "zz"):
            for told in (lambda: board[name], lambda: board.seen(name), lambda: board.shown(name),
                         lambda: board.effect(name, Pipeline())):
                with self.assertRaises(NoView) as caught:
                    told()
                self.assertEqual(vars(caught.exception), {"name": name})
            self.assertIs(name in board, False)

    def test_views_are_seen_behind_the_house_pipeline(self):
        board = set_up("p(span(b) script(b))", "cut 2", reader="unwrap span", other="-")
        self.assertEqual((board.shown("reader").text, board.seen("reader")), ("p(script)", (0, 3)))
        self.assertEqual((board.shown("other").text, board.seen("other")), ("p(span script)", (0, 1, 3)))
        self.assertEqual((board.common(), board.unseen()), ((0, 3), (2, 4)))
        board.turn(Pipeline.of("rename script=span"))
        self.assertEqual((board.shown("reader").text, board.seen("reader")), ("p(b b)", (0, 2, 4)))
        self.assertEqual(board["reader"].text, "unwrap span")

    def test_a_page_without_nodes(self):
        board = set_up("-", reader="drop a", other="-")
        self.assertEqual((board.seen("reader"), board.shown("reader"), board.common(), board.unseen()), ((), Forest(), (), ()))
        # What can go is told for all pages.
        self.assertEqual(board.idle(), ("reader",))

    def test_idle_ones(self):
        rows = [({}, ()), ({"a": "-"}, ()), ({"a": "-", "b": "-"}, ("b",)), ({"b": "-", "a": "drop *"}, ("a",)),
                ({"a": "cut 2", "b": "cut 2", "c": "cut 2"}, ("b", "c")),
                ({"a": "cut 2", "b": "cut 2", "c": "cut 3"}, ("a", "b")),
                ({"a": "cut 2", "b": "cut 3", "c": "cut 2; cut 5"}, ("a", "c")),
                ({"a": "rename x=y", "b": "-"}, ("b",)), ({"a": "drop x", "b": "drop y"}, ()),
                ({"a": "drop x", "b": "drop y", "c": "drop x y"}, ("c",)),
                ({"a": "unwrap x; cut 2", "b": "cut 2; unwrap x"}, ("b",))]
        for views, told in rows:
            self.assertEqual(set_up("a", **views).idle(), told, views)
        board = set_up("a", a="cut 2", b="cut 3")
        self.assertEqual(board.idle(), ("a",))
        board.turn(Pipeline.of("cut 1"))
        self.assertEqual(board.idle(), ("b",))
        board.turn(NOTHING)
        self.assertEqual(board.idle(), ("b",))

    def test_effect(self):
        board = set_up("a", "drop *", reader="cut 2; unwrap b")
        rows = [("unwrap b; cut 2", "within"), ("cut 2; unwrap b; cut 3", "alike"), ("cut 1", "neither"), ("drop *", "around"),
                ("cut 2; unwrap b; rename a=c", "places"), ("-", "within")]
        before = state_of(board)
        for text, told in rows:
            self.assertEqual(board.effect("reader", Pipeline.of(text)), told, text)
        self.assertEqual(state_of(board), before)

    def test_frames_are_told_in_plain_form(self):
        board = set_up("a", b="cut 2", a="-")
        board.frame("b", Pipeline.of("cut 1; unwrap x; cut 4"), Pipeline.of("cut 5; cut 2"))
        board.frame("a", None, None)
        self.assertEqual(board.frames, (("a", None, None), ("b", "drop x; cut 1", "cut 2")))

    def test_no_iteration(self):
        for board in (Board(), set_up("a", a="-")):
            for go in (iter, list, tuple, sorted, set, dict):
                with self.assertRaises(TypeError):
                    go(board)
            with self.assertRaises(TypeError):
                for _ in board:
                    pass

    def test_no_setters(self):
        board = set_up("a", a="-")
        for name in ("page", "house", "names", "frames"):
            with self.assertRaises(AttributeError):
                setattr(board, name, getattr(board, name))


class Views(unittest.TestCase):
    def test_a_new_one_joins_without_a_frame(self):
        board = Board()
        board["b"] = Pipeline.of("cut 2")
        board["a"] = Pipeline.of("drop x")
        self.assertEqual((board.names, board.frames, len(board), board["b"].text), (("a", "b"), (), 2, "cut 2"))
        board["b"] = Pipeline.of("cut 3")
        self.assertEqual((board.names, board["b"].text), (("a", "b"), "cut 3"))

    def test_a_view_goes_with_its_frame(self):
        board = set_up("a", a="cut 2", b="-")
        board.frame("a", None, Pipeline.of("cut 2"))
        self.assertIsNone(board.leave("a"))
        self.assertEqual((board.names, board.frames), (("b",), ()))
        board["a"] = Pipeline()
        self.assertEqual(board.frames, ())

    def test_a_step_comes_behind(self):
        board = set_up("a", a="cut 2")
        other = board
        board += ("a", Step.of("drop -"))
        board += ["a", Step.of("rename a=b")]
        self.assertEqual((board["a"].text, other is board), ("cut 2; drop -; rename a=b", True))
        with self.assertRaises(NoView) as caught:
            board += ("c", Step.of("cut 1"))
        self.assertEqual(vars(caught.exception), {"name": "c"})

    def test_within_a_frame(self):
        board = set_up("a", a="cut 3")
        board.frame("a", Pipeline.of("cut 2"), Pipeline.of("cut 4"))
        for text in ("cut 2", "cut 3; rename a=b", "cut 4"):
            board["a"] = Pipeline.of(text)
        for text in ("cut 1", "cut 5", "-", "drop *", "drop x; cut 3", "unwrap b; cut 3", "cut 3; unwrap b"):
            with self.assertRaises(Outside) as caught:
                board["a"] = Pipeline.of(text)
            self.assertEqual(vars(caught.exception), {"name": "a"})
        self.assertEqual(board["a"].text, "cut 4")
        for text in ("drop x", "cut 1"):
            with self.assertRaises(Outside) as caught:
                board += ("a", Step.of(text))
            self.assertEqual(vars(caught.exception), {"name": "a"})
        board += ("a", Step.of("rename a=b"))
        self.assertEqual(board["a"].text, "cut 4; rename a=b")

    def test_a_frame_in_the_place_of_an_earlier_one(self):
        board = set_up("a", a="cut 3")
        board.frame("a", Pipeline.of("cut 2"), None)
        self.assertIsNone(board.frame("a", None, Pipeline.of("cut 3")))
        self.assertEqual(board.frames, (("a", None, "cut 3"),))
        with self.assertRaises(Outside) as caught:
            board.frame("a", Pipeline.of("cut 4"), None)
        self.assertEqual(vars(caught.exception), {"name": "a"})
        with self.assertRaises(Outside):
            board.frame("a", None, Pipeline.of("cut 2"))
        with self.assertRaises(NoView) as caught:
            board.frame("b", Pipeline.of("cut 4"), Pipeline.of("cut 2"))
        self.assertEqual(vars(caught.exception), {"name": "b"})
        self.assertEqual(board.frames, (("a", None, "cut 3"),))

    def test_a_frame_of_two_none_is_a_frame_too(self):
        board = set_up("a", a="cut 3")
        board.frame("a", None, None)
        self.assertEqual(board.frames, (("a", None, None),))
        board["a"] = NOTHING
        self.assertIsNone(board.lift("a"))
        self.assertEqual(board.frames, ())
        with self.assertRaises(NoFrame) as caught:
            board.lift("a")
        self.assertEqual(vars(caught.exception), {"name": "a"})
        with self.assertRaises(NoView) as caught:
            board.lift("b")
        self.assertEqual(vars(caught.exception), {"name": "b"})

    def test_the_house_pipeline_is_in_no_frame(self):
        board = set_up("a", a="cut 3")
        board.frame("a", Pipeline.of("cut 2"), Pipeline.of("cut 4"))
        self.assertIsNone(board.turn(NOTHING))
        self.assertEqual((board.house.text, board.shown("a")), ("drop *", Forest()))


class Pages(unittest.TestCase):
    def test_roots_and_leaves(self):
        rows = [("put", (None, "x"), "a(b c(d)) e x"), ("put", (0, "x"), "a(b c(d) x) e"), ("put", (1, "x"), "a(b(x) c(d)) e"),
                ("put", (3, "x"), "a(b c(d(x))) e"), ("put", (4, "x"), "a(b c(d)) e(x)"), ("take", (0,), "e"),
                ("take", (1,), "a(c(d)) e"), ("take", (2,), "a(b) e"), ("take", (4,), "a(b c(d))"),
                ("unwrap", (0,), "b c(d) e"), ("unwrap", (1,), "a(c(d)) e"), ("unwrap", (2,), "a(b d) e"),
                ("unwrap", (4,), "a(b c(d))"), ("call", (0, "x"), "x(b c(d)) e"), ("call", (3, "x"), "a(b c(x)) e"),
                ("call", (4, "e"), "a(b c(d)) e")]
        for word, given, text in rows:
            board = set_up("a(b c(d)) e")
            self.assertIsNone(getattr(board, word)(*given))
            self.assertEqual(board.page.text, text, (word, given))
            self.assertIs(board.undo(), True)
            self.assertEqual(board.page.text, "a(b c(d)) e")

    def test_places_just_beyond_either_end(self):
        for text in ("-", "a", "a(b c(d)) e"):
            board = set_up(text)
            for place in (-1, len(board.page), -len(board.page) - 1, MANY, -MANY):
                for told in (lambda: board.put(place, "x"), lambda: board.take(place), lambda: board.unwrap(place),
                             lambda: board.call(place, "x")):
                    with self.assertRaises(NoPlace) as caught:
                        told()
                    self.assertEqual(vars(caught.exception), {"place": place})
            self.assertEqual(board.page.text, text)

    def test_a_page_that_is_emptied_and_filled_again(self):
        board = set_up("a(b)")
        board.take(0)
        self.assertEqual((board.page.text, len(board.page)), ("-", 0))
        board.put(None, "x")
        self.assertEqual(board.page.text, "x")
        board.unwrap(0)
        self.assertEqual(board.page.text, "-")

    def test_three_hundred_nodes(self):
        board = Board()
        board.attempt([("put", at if at >= 0 and (at + 1) % 60 else None, "a") for at in range(-1, 299)])
        self.assertEqual(board.page, Forest(path_of(("a",) * 60) * 5))
        names, pipeline = many_steps(0)
        for at in range(8):
            board["abcdefgh"[at]] = pipeline
        self.assertEqual(board.common(), pipeline.places(board.page))
        self.assertEqual(board.idle(), tuple("bcdefgh"))
        self.assertEqual(len(names), 40)
        board.take(0)
        self.assertEqual(len(board.page), 240)
        wide = Board()
        wide.attempt([("put", None, "b")] * 300)
        self.assertEqual(wide.page, Forest(row_of("b", 300)))


class Attempts(unittest.TestCase):
    def test_all_kinds_of_deeds(self):
        board = Board()
        deeds = (("put", None, "p"), ("put", 0, "q"), ("put", 0, "r"), ("call", 1, "s"), ("set", "a", Pipeline.of("cut 2")),
                 ("step", "a", Step.of("drop s")), ("frame", "a", None, Pipeline()), ("turn", Pipeline.of("cut 9")),
                 ("set", "b", Pipeline()), ("frame", "b", None, None), ("lift", "b"), ("leave", "b"), ("unwrap", 0),
                 ("take", 0))
        self.assertIsNone(board.attempt(deeds))
        self.assertEqual(state_of(board), ((("r", ()),), "cut 9", (("a", "cut 2; drop s"),), (("a", None, "-"),), 1))
        self.assertIs(board.undo(), True)
        self.assertEqual(board, Board())
        self.assertIs(board.undo(), False)

    def test_the_first_one_that_is_refused(self):
        rows = [((("take", 0),), 0, "NoPlace", 0), ((("put", None, "a"), ("call", 1, "b"), ("lift", "x")), 1, "NoPlace", 1),
                ((("leave", "a"),), 0, "NoView", "a"), ((("set", "a", Pipeline()), ("lift", "a")), 1, "NoFrame", "a"),
                ((("set", "a", Pipeline()), ("frame", "a", None, NOTHING)), 1, "Outside", "a"),
                ((("set", "a", NOTHING), ("frame", "a", None, NOTHING), ("set", "a", Pipeline())), 2, "Outside", "a"),
                ((("step", "b", Step.of("cut 1")), ("take", 0)), 0, "NoView", "b"), ((("put", -1, "a"),), 0, "NoPlace", -1),
                ((("turn", NOTHING), ("unwrap", MANY)), 1, "NoPlace", MANY)]
        for deeds, number, raised, value in rows:
            for handed in (deeds, [list(deed) for deed in deeds]):
                board = set_up("-")
                board.undo()
                before = state_of(board)
                with self.assertRaises(Stopped) as caught:
                    board.attempt(handed)
                self.assertEqual(vars(caught.exception), {"number": number, "raised": raised, "value": value})
                self.assertEqual(state_of(board), before)
                self.assertIs(board.undo(), True)
                self.assertIs(board.undo(), False)

    def test_no_deeds_are_a_deed_too(self):
        board = set_up("a", a="-")
        board.attempt(())
        board.attempt([])
        self.assertEqual((board.undo(), board.undo(), board["a"].text), (True, True, "-"))
        board.undo()
        self.assertIs("a" in board, False)


class Undo(unittest.TestCase):
    def test_deeds_that_change_nothing_are_deeds_too(self):
        board = set_up("a", a="-")
        board.frame("a", None, None)
        before = state_of(board)
        board.call(0, "a")
        board["a"] = Pipeline()
        board.frame("a", None, None)
        board.turn(Pipeline())
        for _ in range(4):
            self.assertEqual(state_of(board), before)
            self.assertIs(board.undo(), True)
        self.assertEqual(state_of(board), before)
        board.undo()
        self.assertEqual(board.frames, ())

    def test_behind_refused_deeds(self):
        board = set_up("a", a="cut 2")
        board.frame("a", None, Pipeline.of("cut 2"))
        for deed in (("set", "a", Pipeline()), ("take", 5), ("leave", "b"), ("lift", "b"), ("frame", "a", Pipeline(), None)):
            with self.assertRaises((Outside, NoPlace, NoView)):
                do(board, deed)
        with self.assertRaises(Stopped):
            board.attempt((("take", 0), ("take", 0)))
        self.assertEqual(board.frames, (("a", None, "cut 2"),))
        self.assertIs(board.undo(), True)
        self.assertEqual(board.frames, ())

    def test_nothing_to_take_back(self):
        board = Board()
        self.assertIs(board.undo(), False)
        board.put(None, "a")
        self.assertEqual((board.undo(), board.undo(), board.undo()), (True, False, False))

    def test_a_frame_comes_back_with_its_view(self):
        board = set_up("a", a="cut 2")
        board.frame("a", None, Pipeline.of("cut 3"))
        board.leave("a")
        board.undo()
        self.assertEqual((board["a"].text, board.frames), ("cut 2", (("a", None, "cut 3"),)))
        with self.assertRaises(Outside):
            board["a"] = Pipeline()


class Twins(unittest.TestCase):
    def test_they_go_on_by_themselves(self):
        board = set_up("a(b)", a="cut 2", b="-")
        board.frame("a", None, Pipeline.of("cut 2"))
        twin = board.twin()
        self.assertIsInstance(twin, Board)
        self.assertEqual(twin, board)
        before = state_of(board)
        twin.take(0)
        twin.lift("a")
        twin["c"] = NOTHING
        twin.turn(NOTHING)
        twin.leave("b")
        twin += ("a", Step.of("drop b"))
        self.assertEqual(state_of(board), before)
        self.assertNotEqual(twin, board)
        after = state_of(twin)
        board.put(0, "x")
        board.undo()
        board.undo()
        self.assertEqual(state_of(twin), after)
        for _ in range(6):
            self.assertIs(twin.undo(), True)
        self.assertEqual(state_of(twin), before)

    def test_the_same_deeds_to_take_back(self):
        board = set_up("a(b)", a="cut 2")
        twin = board.twin()
        many = 0
        while board.undo():
            many += 1
            self.assertIs(twin.undo(), True)
            self.assertEqual(twin, board)
        self.assertIs(twin.undo(), False)
        self.assertEqual(many, 3)


class Equality(unittest.TestCase):
    def test_pages_houses_views_and_frames(self):
        one = set_up("a(b)", "cut 2", a="drop x")
        self.assertEqual(one, set_up("a(b)", "cut 2; cut 5", a="drop x; unwrap x"))
        for other in (set_up("a b", "cut 2", a="drop x"), set_up("a(b)", "cut 3", a="drop x"), set_up("a(b)", "cut 2"),
                      set_up("a(b)", "cut 2", a="drop y"), set_up("a(b)", "cut 2", b="drop x"),
                      set_up("a(b)", "cut 2", a="drop x", b="drop x"), set_up("a(b)", "cut 2", a="drop x; rename a=b")):
            self.assertIs(one == other, False)
            self.assertIs(one != other, True)

    def test_frames_of_alike_pipelines(self):
        ends = [(None, None), (None, Pipeline()), (NOTHING, None), (NOTHING, Pipeline()), (None, Pipeline.of("drop x")),
                (Pipeline.of("cut 1; drop x"), None)]
        boards = []
        for low, high in ends:
            board = set_up("a", a="drop x")
            board.frame("a", low, high)
            boards.append(board)
        boards.append(set_up("a", a="drop x"))
        for at, one in enumerate(boards):
            for place, other in enumerate(boards):
                self.assertIs(one == other, at == place)
        same = set_up("a", a="drop x")
        same.frame("a", Pipeline.of("unwrap *"), Pipeline.of("cut 3; unwrap x; drop x") & Pipeline() | Pipeline())
        self.assertEqual(same, boards[3])

    def test_what_can_be_taken_back_plays_no_role(self):
        one, other = Board(), Board()
        other.put(None, "a")
        other.undo()
        other.attempt(())
        self.assertEqual(one, other)

    def test_a_board_equals_nothing_else(self):
        for board in (Board(), set_up("a", a="-")):
            for thing in (None, True, False, 0, 1, "", "-", (), [], {}, board.page, board.house, Forest(), Pipeline(), object()):
                self.assertIs(board == thing, False)
                self.assertIs(thing == board, False)
                self.assertIs(board != thing, True)


class Handed(unittest.TestCase):
    def test_arguments_by_the_names_shown(self):
        board = Board()
        board.put(label="a", place=None)
        board.put(label="b", place=0)
        board["r"] = Pipeline.of("cut 2")
        board.frame(high=Pipeline(), low=None, name="r")
        self.assertEqual((board.seen(name="r"), board.shown(name="r").text), ((0, 1), "a(b)"))
        self.assertEqual(board.effect(pipeline=Pipeline(), name="r"), "within")
        board.lift(name="r")
        board.turn(pipeline=Pipeline.of("cut 1"))
        board.call(label="c", place=1)
        board.unwrap(place=0)
        board.take(place=0)
        board.leave(name="r")
        board.attempt(deeds=(("put", None, "z"),))
        self.assertEqual(state_of(board), ((("z", ()),), "cut 1", (), (), 0))

    def test_lists_that_change_afterwards(self):
        steps = [Step.of("cut 2")]
        deeds = [["put", None, "a"], ["set", "r", Pipeline(steps)], ["frame", "r", None, Pipeline()], ["put", 0, "b"]]
        handed = [list(deed) for deed in deeds]
        board = Board()
        board.attempt(deeds)
        self.assertEqual(deeds, handed)
        told = state_of(board)
        scrambled(deeds)
        scrambled(steps)
        self.assertEqual(state_of(board), told)
        board.undo()
        self.assertEqual(board, Board())


if __name__ == "__main__":
    unittest.main()
