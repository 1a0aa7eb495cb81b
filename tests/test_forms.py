import itertools
import unittest
from random import Random

from deepcuts.forests import chain
from deepcuts.forms import is_form, pipeline_of
from deepcuts.labels import Labels
from deepcuts.pipelines import Pipeline
from deepcuts.steps import Step
from tests.pipes import (ENDLESS, STRANGE, drawn_forest, drawn_pipeline, keeps, labels_told, many_steps, places_in, run,
                         seen_form, short_paths, stays_by_rooms, valid_forms)
from tests.things import listed, scrambled, things

MANY = 10 ** 39 + 7
NOTHING = ((), (False, 0))


def steps_by_the_words(form):
    """The texts of the plain steps of a FORM, read off the document; labels are tried one by one."""
    labels = sorted({name for name, _, _ in form[0]} | {last for _, last, _ in form[0] if last} | {STRANGE})
    told = {name: (last, room) for name, last, room in form[0]}
    own = {name: told.get(name, (name if form[1][0] else None, form[1][1])) for name in labels}
    left = [name for name in labels if own[name][0] is not None]
    if not left:
        return ["drop *"]

    def text_of(room):
        these = [name for name in labels if own[name] == (None, room)]
        rest = STRANGE in these
        told_names = [name for name in labels if (name in these) != rest]
        return Labels(told_names, rest).text

    found = [f"{kind} {text_of(room)}" for kind, room in (("drop", 0), ("unwrap", None)) if text_of(room) != "-"]
    rooms = {room for last, room in own.values() if last is None} - {0, None}
    last_cut = None
    for room in sorted(rooms, reverse=True):
        found += [f"cut {room + 1}", f"unwrap {text_of(room)}"]
        last_cut = room + 1
    depth = own[left[0]][1]
    if depth is not None and depth + 1 != last_cut:
        found.append(f"cut {depth + 1}")
    pairs = [f"{name}={own[name][0]}" for name in left if own[name][0] != name]
    return found + (["rename " + " ".join(pairs)] if pairs else [])


def spoilt(form):
    """The FORM with one part spoilt, in each way."""
    entries, rest = form
    yield from (list(form), (list(entries), rest), (entries, list(rest)), form + (0,), form[:1], (entries, rest[:1]))
    yield from (((entries, rest),), (rest, entries), (entries, rest + (0,)), (entries, None), (None, rest),
                (entries, ()))
    for room in (-1, True, False, "0", (), "", [], -10 ** 40, (0,)):
        yield entries, (rest[0], room)
    for left in (0, 1, None, "True", (), [], rest, "a"):
        yield entries, (left, rest[1])
    for at, entry in enumerate(entries):
        name, last, room = entry
        for wrong in (list(entry), entry[:2], entry + (0,), (entry,), None, name, (), (room, last, name),
                      (name, room, last)):
            yield entries[:at] + (wrong,) + entries[at + 1:], rest
        for wrong in ("", "A", "a b", "abcdefghi", "-", 0, True, False, None, (), [name], (name,)):
            yield entries[:at] + ((wrong, last, room),) + entries[at + 1:], rest
        for wrong in ("", "A", "a b", "abcdefghi", "-", 0, True, False, (), [name], (name,)):
            yield entries[:at] + ((name, wrong, room),) + entries[at + 1:], rest
        for wrong in (-1, True, False, "", "0", "a", (), [], (room,), -10 ** 40):
            yield entries[:at] + ((name, last, wrong),) + entries[at + 1:], rest
        yield entries + (entry,), rest
        yield entries[:at] + (entry, entry) + entries[at + 1:], rest
        yield entries[:at] + ((name, name if rest[0] else None, rest[1]),) + entries[at + 1:], rest
    if len(entries) > 1:
        yield entries[::-1], rest
    yield entries + (("zz", "zz" if rest[0] else None, rest[1]),), rest


class Rooms(unittest.TestCase):
    def test_the_form_is_what_single_paths_show(self):
        random = Random(11)
        for _ in range(500):
            pipeline = drawn_pipeline(random, list("abc"), 7)
            self.assertEqual(pipeline.form, seen_form(pipeline, "abc", 5), pipeline.text)

    def test_all_short_pipelines(self):
        pool = ["drop a", "unwrap a", "unwrap * - a", "drop * - a b", "unwrap b", "cut 1", "cut 2", "rename a=b"]
        pool = [Step.of(text) for text in pool + ["rename a=b b=c"]]
        for many in range(4):
            for steps in itertools.product(pool, repeat=many):
                pipeline = Pipeline(steps)
                self.assertEqual(pipeline.form, seen_form(pipeline, "abc", 2), pipeline.text)

    def test_a_node_stays_exactly_if_the_sorted_rooms_say_so(self):
        random = Random(12)
        for _ in range(600):
            pipeline = drawn_pipeline(random, list("abc"), 7)
            forest = drawn_forest(random, 25, list("abcd"))
            stay = [place for place in range(len(forest)) if stays_by_rooms(pipeline, forest.path(place))]
            self.assertEqual(tuple(stay), places_in(run(pipeline, forest.trees)), (pipeline.text, forest.text))
            out = pipeline(forest)
            lasts = [pipeline.final(forest[place]) for place in stay]
            self.assertEqual([out[place] for place in range(len(out))], lasts)

    def test_all_short_paths(self):
        random = Random(13)
        for _ in range(60):
            pipeline = drawn_pipeline(random, list("ab"), 6, 3)
            for path in short_paths(["a", "b", STRANGE], 5):
                self.assertIs(keeps(pipeline, path), stays_by_rooms(pipeline, path), (pipeline.text, path))

    def test_room_final_left_and_depth_go_with_the_form(self):
        random = Random(14)
        for _ in range(300):
            pipeline = drawn_pipeline(random, list("abc"), 7)
            entries, (left, room) = pipeline.form
            told = {name: (last, own) for name, last, own in entries}
            for name in labels_told(pipeline) + ["a", "b", "c", "abcdefgh"]:
                wanted = told.get(name, (name if left else None, room))
                self.assertEqual((pipeline.final(name), pipeline.room(name)), wanted)
                self.assertIs(name in pipeline.left, wanted[0] is not None)
            self.assertIs(pipeline.left.rest, left)
            rooms = {pipeline.room(name) for name in labels_told(pipeline) if name in pipeline.left}
            self.assertLessEqual(len(rooms), 1)
            depths = {0} if not rooms else {own if own is None else own + 1 for own in rooms}
            self.assertEqual({pipeline.depth}, depths)

    def test_the_depth_is_how_deep_what_comes_out_can_be(self):
        random = Random(15)
        for _ in range(200):
            pipeline = drawn_pipeline(random, list("ab"), 5, 4)
            left = [name for name in ("a", "b", STRANGE) if name in pipeline.left]
            deepest = max([pipeline(chain((name,) * 8)).depth for name in left], default=0)
            self.assertEqual(deepest, 8 if pipeline.depth is None else pipeline.depth)

    def test_edges(self):
        rows = {
            "-": ((), (True, None)),
            "drop -": ((), (True, None)),
            "rename -": ((), (True, None)),
            "drop *": NOTHING,
            "unwrap *": NOTHING,
            "cut 3; unwrap *": NOTHING,
            "unwrap a; drop * - a": NOTHING,
            "drop * - a; cut 4; rename a=b; unwrap b": NOTHING,
            "cut 1": ((), (True, 0)),
            "cut 1; unwrap b": ((("b", None, 0),), (True, 0)),
            "unwrap * - a b; cut 4": ((("a", "a", 3), ("b", "b", 3)), (False, None)),
            "cut 4; unwrap * - a; cut 2": ((("a", "a", 1),), (False, 3)),
            "drop * - a": ((("a", "a", None),), (False, 0)),
            "drop * - a b; unwrap b; cut 3": ((("a", "a", 2), ("b", None, None)), (False, 0)),
            f"cut {10 ** 40}; unwrap a; cut {MANY}": ((("a", None, 10 ** 40 - 1),), (True, MANY - 1)),
            f"cut {MANY}; cut {10 ** 40}; unwrap a": ((("a", None, MANY - 1),), (True, MANY - 1)),
            "rename a=b b=c c=a": ((("a", "b", None), ("b", "c", None), ("c", "a", None)), (True, None)),
            "rename a=c b=c": ((("a", "c", None), ("b", "c", None)), (True, None)),
            "rename a=b; rename b=c": ((("a", "c", None), ("b", "c", None)), (True, None)),
            "rename a=b; rename b=a": ((("b", "a", None),), (True, None)),
            "rename a=b; cut 3; unwrap b": ((("a", None, 2), ("b", None, 2)), (True, 2)),
            "rename a=b; drop a": ((("a", "b", None),), (True, None)),
            "cut 7; drop a; cut 3": ((("a", None, 0),), (True, 2)),
            "cut 3; drop * - a; rename a=b; unwrap a": ((("a", "b", 2),), (False, 0)),
        }
        for text, form in rows.items():
            pipeline = Pipeline.of(text)
            self.assertEqual(pipeline.form, form, text)
            self.assertIs(type(pipeline.form[1][0]), bool)
            self.assertEqual(Pipeline(pipeline.steps).form, form)

    def test_nothing_left_has_no_room_at_all(self):
        pipeline = Pipeline.of("unwrap a; cut 5; drop * - a")
        self.assertEqual([pipeline.room(name) for name in ("a", "b", "c")], [0, 0, 0])
        self.assertEqual((pipeline.left, pipeline.depth, pipeline.final("a")), (Labels(), 0, None))

    def test_left(self):
        for text, left in (("-", "*"), ("drop *", "-"), ("unwrap a", "* - a"), ("rename a=b; drop b", "* - a b"),
                           ("drop * - a c; unwrap c", "a"), ("rename a=b; drop a; cut 1", "*")):
            self.assertEqual(Pipeline.of(text).left.text, left)
        self.assertEqual(Pipeline.of(f"cut {MANY}").depth, MANY)

    def test_bounds(self):
        names, pipeline = many_steps(0)
        self.assertEqual(len(pipeline.form[0]), 40)
        for name in names + ["a", "zzzzzzzz"]:
            for many in (0, 1, 5):
                path = (name,) * many + ("zzzzzzzz",)
                self.assertIs(keeps(pipeline, path), stays_by_rooms(pipeline, path))
        self.assertEqual(pipeline.room("zzzzzzzz"), 10 ** 40 - 37)
        self.assertEqual(pipeline.plain, pipeline)


class Plain(unittest.TestCase):
    def test_its_steps_are_those_of_the_document(self):
        for form in valid_forms("ab", [0, 1, 2, None], ["a", "b", "c"]):
            pipeline = pipeline_of(form)
            self.assertEqual(pipeline.text, "; ".join(steps_by_the_words(form)) or "-")
            self.assertEqual(pipeline.form, form)
            self.assertEqual(pipeline.plain.text, pipeline.text)
        for form in valid_forms("abc", [0, 1, 3, None]):
            self.assertEqual(pipeline_of(form).text, "; ".join(steps_by_the_words(form)) or "-")

    def test_of_drawn_ones(self):
        random = Random(16)
        for _ in range(400):
            pipeline = drawn_pipeline(random, list("abcd"), 9)
            self.assertEqual(pipeline.plain.form, pipeline.form)
            self.assertEqual(pipeline.plain.text, "; ".join(steps_by_the_words(pipeline.form)) or "-")
            self.assertEqual(pipeline_of(pipeline.form).steps, pipeline.plain.steps)

    def test_some(self):
        rows = {"cut 2; cut 1": "cut 1", "drop b; drop a": "drop a b", "cut 3; unwrap a; cut 3": "cut 3; unwrap a",
                "unwrap a; drop b": "drop b; unwrap a", "cut 2; unwrap *": "drop *",
                "rename a=b b=a; rename a=b b=a": "-",
                "cut 9; unwrap a b; cut 4; unwrap c; cut 2": "cut 9; unwrap a b; cut 4; unwrap c; cut 2",
                "drop a; rename a=b": "drop a", "drop * - c; rename b=c": "drop * - c",
                "unwrap * - a b; drop b": "drop b; unwrap * - a b"}
        for text, plain in rows.items():
            self.assertEqual(Pipeline.of(text).plain.text, plain)


class Things(unittest.TestCase):
    def test_all_small_ones(self):
        rooms = [0, 1, 2, None]
        right = set(valid_forms("ab", rooms, ["a", "b", "c"]))
        seen = 0
        entry = [(name, last, room) for name in "ab" for last in (None, "a", "b", "c") for room in rooms]
        for many in range(3):
            for entries in itertools.product(entry, repeat=many):
                for rest in itertools.product((True, False), rooms):
                    seen += is_form((entries, rest))
                    self.assertIs(is_form((entries, rest)), (entries, rest) in right, (entries, rest))
        self.assertEqual(seen, len(right))

    def test_forms_are_just_those_of_pipelines(self):
        labels = [Labels(names, rest) for names in ("", "a", "b", "ab") for rest in (False, True)]
        pool = [Step(kind, what) for kind in ("drop", "unwrap") for what in labels]
        pool += [Step.of(text) for text in ("cut 1", "cut 2", "cut 3", "rename a=b", "rename b=a", "rename a=b b=a")]
        met = {Pipeline().form: Pipeline()}
        waiting = [Pipeline()]
        while waiting:
            pipeline = waiting.pop()
            for step in pool:
                more = pipeline >> step
                if more.form not in met:
                    met[more.form] = more
                    waiting.append(more)
        self.assertEqual(set(met), set(valid_forms("ab", [0, 1, 2, None], ["a", "b"])))
        for form, pipeline in met.items():
            self.assertIs(is_form(form), True)
            self.assertEqual(pipeline_of(form), pipeline)

    def test_one_part_spoilt(self):
        forms = [((("a", "c", 1), ("b", None, 4)), (True, 1)), ((("a", "b", 2), ("c", None, 7)), (False, 0)), NOTHING,
                 ((), (True, None)), ((), (True, 0)), ((("a", "a", None), ("b", None, 0)), (False, None)),
                 ((("a", "a", 0), ("b", None, 1)), (False, None))]
        for form in forms:
            self.assertIs(is_form(form), True)
            for thing in spoilt(form):
                self.assertIs(is_form(thing), False, (form, thing))

    def test_rooms_that_do_not_fit(self):
        wrong = [((("a", None, 1),), (True, 2)), ((("a", "b", 1),), (True, 2)), ((("a", "b", 3),), (True, 2)),
                 ((("a", "b", None),), (True, 2)), ((("a", "b", 2),), (True, None)), ((("a", None, 7),), (True, None)),
                 ((("a", "a", 1), ("b", "b", 2)), (False, 0)), ((("a", "a", 3),), (False, 2)),
                 ((("a", "a", None),), (False, 5)),
                 ((("a", None, 1),), (False, 0)), ((), (False, 1)), ((), (False, None)),
                 ((("a", None, None),), (False, 0)),
                 ((("a", None, 0),), (False, 1)), ((("a", "a", 1),), (True, 1)),
                 ((("a", None, 0), ("b", None, 0)), (False, 0))]
        right = [((("a", None, 2),), (True, 2)), ((("a", None, 0),), (True, 2)), ((("a", None, None),), (True, 2)),
                 ((("a", None, 1),), (True, 0)), ((("a", None, 0),), (True, 0)), ((("a", "b", None),), (True, None)),
                 ((("a", None, 0),), (True, None)), ((("a", None, None),), (True, None)),
                 ((("a", "a", 0),), (False, 0)),
                 ((("a", "a", 3),), (False, 3)), ((("a", "zz", 3),), (False, None)),
                 ((("a", "b", 0), ("b", "a", 0)), (True, 0))]
        for thing in wrong:
            self.assertIs(is_form(thing), False, thing)
        for thing in right:
            self.assertIs(is_form(thing), True, thing)
            self.assertEqual(pipeline_of(thing).form, thing)

    def test_whatever_the_bounds(self):
        names = sorted({first + second + third for first in "abc" for second in "defgh" for third in "ijklm"})
        self.assertIs(is_form((tuple([(name, "a", ENDLESS) for name in names]), (True, ENDLESS))), True)
        self.assertIs(is_form((tuple([(name, None, 10 ** 80) for name in names]), (True, ENDLESS))), True)
        self.assertIs(is_form((tuple([(name, None, 10 ** 50) for name in names]), (True, ENDLESS))), False)
        self.assertIs(is_form((tuple([(name, "a", 3) for name in names[::-1]]), (True, 3))), False)

    def test_things_of_all_kinds(self):
        all_things = things()
        right = [repr(rest) for rest in ((True, None), (True, 0), (True, 1), (False, 0), (True, 10 ** 40))]
        rests = [thing for thing in all_things if repr(thing) in right]
        self.assertEqual(len(rests), 5)
        for thing in all_things:
            self.assertIs(is_form(thing), False, thing)
            self.assertIs(is_form((thing, (True, 1))), thing == () and isinstance(thing, tuple))
            self.assertIs(is_form(((), thing)), any(thing is one for one in rests), thing)
            self.assertIs(is_form(((thing,), (True, 1))), False)
            self.assertIs(is_form((((thing, "b", 1),), (True, 1))), thing in ("a", "zz", "abcdefgh"))
            self.assertIs(is_form(((("a", thing, 2),), (True, 2))), thing is None or thing in ("zz", "abcdefgh"), thing)
            number = thing is None or type(thing) is int and thing in (0, 10 ** 40)
            self.assertIs(is_form(((("a", None, thing),), (True, 2))), number, thing)

    def test_twelve_levels(self):
        thing = ()
        for _ in range(12):
            thing = (thing,)
            self.assertIs(is_form(thing), False)
            self.assertIs(is_form((thing, (True, 0))), False)
            self.assertIs(is_form(((("a", None, thing),), (True, 0))), False)


class Handed(unittest.TestCase):
    def test_lists_for_tuples_at_every_depth(self):
        form = ((("a", "b", 2), ("c", None, 7)), (False, 0))
        pipeline = pipeline_of(form)
        for handed in (listed(form), list(form), (list(form[0]), form[1]), (form[0], list(form[1])),
                       (tuple(map(list, form[0])), form[1])):
            self.assertEqual(pipeline_of(handed).steps, pipeline.steps)
            self.assertEqual(pipeline_of(handed).form, form)
            self.assertIs(is_form(handed), False)

    def test_what_is_handed_in_stays_and_may_change_afterwards(self):
        form = ((("a", "b", 2), ("c", None, 7)), (False, 0))
        handed = listed(form)
        pipeline = pipeline_of(handed)
        self.assertEqual(handed, listed(form))
        scrambled(handed)
        self.assertEqual((pipeline.form, pipeline.text), (form, "drop * - a c; cut 8; unwrap c; cut 3; rename a=b"))
        self.assertIs(is_form(pipeline.form), True)

    def test_nothing_left_as_lists(self):
        self.assertEqual(pipeline_of([[], [False, 0]]).text, "drop *")
        self.assertEqual(pipeline_of([[], [True, None]]).text, "-")

    def test_arguments_by_the_names_shown(self):
        self.assertIs(is_form(thing=NOTHING), True)
        self.assertEqual(pipeline_of(form=((), (True, 0))).text, "cut 1")


if __name__ == "__main__":
    unittest.main()
