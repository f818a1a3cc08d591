"""The interface, promise [2]: all names exist where they should, and take their arguments by name in any order."""

import ast
import importlib
import inspect
import pathlib
import unittest

from betweenlooks import (
    acts, clashes, customary, desks, errors, facts, histories, least, lots, machines, marks, onto, others, plans,
    questions, texts, timings, watchers,
)
from betweenlooks.errors import LooksError
from helpers import BACK

FOLDER = pathlib.Path(__file__).resolve().parent.parent / "betweenlooks"
FR = ("f", "r")
AGAIN = facts.Scattered(FR)
TURN = machines.Machine(FR, [[1, 1], [0, 0]], ["x", "y"])
ASKED, TAKEN = questions.Question(BACK), questions.Question(BACK, "taken")
KEPT, CLEARED = marks.Mark(BACK, "kept"), marks.Mark(BACK, "cleared")
LOT, TIMING = marks.Lot([KEPT, CLEARED]), timings.Timing(3, ("r",))
HISTORY = histories.History.read("f | r |")
CLASH = clashes.Clash(HISTORY, histories.History.read("r | f |"))
LATE = least.least(questions.Question(TURN, "joined"), "kept")
NEVER = least.least(questions.Question(BACK, "stretch"), "kept")
ROUTINE = watchers.Routine("m", {("m", ("no", "no")): ("m", "no")})
PLAN, ACT = plans.Plan((0, 1, 0), (0, 1), ((0, 2),)), acts.Act((1, 1, 2))
PRICED = [(KEPT, 2), (CLEARED, 1)]
RUN = ("f", "?", "?", "r", "?")


def watcher():
    return watchers.Watcher(ASKED, LOT, TIMING)


def looked():
    found = watcher()
    found.look(("no", "no"))
    return found


def desk():
    found = desks.Desk(FR)
    found.put("m", AGAIN, "kept")
    found.ask("q", AGAIN, "taken") if found.covers(AGAIN, "taken") is None else found.ask("q", AGAIN)
    return found


def shift():
    return desk().shift()


# For each of the interface what it is (or makes it anew, for what changes), its name, and its arguments by the names of
# the signatures, in their order; those that are passed by name only stand behind None.
CALLS = [
    (machines, "Machine", {"deeds": FR, "rows": [[0, 1], [1, 0]], "tells": ["x", "y"], "start": 1}),
    (BACK, "after", {"row": FR, "state": 1}), (BACK, "path", {"row": FR, "state": 1}), (BACK, "told", {"row": FR}),
    (BACK, "apart", {"a": 0, "b": 1}), (BACK, "parting", {"other": machines.Machine(FR, [[0, 0]], ["no"])}),
    (BACK, "telling", {"table": {"no": "x", "yes": "y"}}),
    (acts, "Act", {"states": (0, 0)}), (ACT, "times", {"number": 3}), (acts, "act_of", {"machine": BACK, "row": FR}),
    (acts, "acts", {"machine": BACK}),
    (facts, "Done", {"group": FR}), (facts, "Latest", {"group": FR}), (facts, "Count", {"group": FR, "top": 3}),
    (facts, "Turn", {"group": FR, "modulus": 3}), (facts, "Level", {"up": FR[:1], "down": FR[1:], "top": 2}),
    (facts, "Ahead", {"first": FR[:1], "second": FR[1:]}), (facts, "Recent", {"many": 2}),
    (facts, "Ends", {"pattern": FR}), (facts, "Has", {"pattern": FR}), (facts, "Scattered", {"pattern": FR}),
    (facts, "Since", {"group": FR, "fact": AGAIN}), (facts, "Once", {"fact": AGAIN, "tell": "yes"}),
    (facts, "Changes", {"fact": AGAIN, "modulus": 2}), (facts, "Retold", {"fact": AGAIN, "table": {"no": "x"}}),
    (facts, "Not", {"fact": AGAIN}), (facts, "And", {"one": AGAIN, "two": ~AGAIN}),
    (facts, "Or", {"one": AGAIN, "two": ~AGAIN}), (facts, "Xor", {"one": AGAIN, "two": ~AGAIN}),
    (facts, "Both", {"one": AGAIN, "two": ~AGAIN}), (AGAIN, "told", {"row": FR}), (AGAIN, "machine_for", {"deeds": FR}),
    (texts, "fact_text", {"fact": AGAIN}), (texts, "read_fact", {"text": "done(f r)"}),
    (questions, "Question", {"machine": BACK, "kind": "joined"}),
    (questions.Question, "of", {"fact": AGAIN, "deeds": FR, "kind": "joined"}),
    (TAKEN, "due", {"history": HISTORY, "state": 1}), (TAKEN, "standing", {"history": HISTORY, "state": 1}),
    (ASKED, "parting", {"other": questions.Question(BACK, "stretch")}),
    (histories, "History", {"stretches": [FR]}), (HISTORY, "until", {"k": 0}), (HISTORY, "without", {"k": 0}),
    (histories.History, "cut", {"row": FR, "places": (1, 2)}), (histories.History, "read", {"text": "f |"}),
    (histories, "histories", {"deeds": FR, "looks": 2, "most": 1}),
    (marks, "Mark", {"machine": BACK, "rule": "kept"}), (marks, "Lot", {"marks": [KEPT]}),
    (LOT, "after", {"values": (0, 1), "row": FR}), (LOT, "look", {"values": (0, 1)}),
    (LOT, "readings", {"history": HISTORY}),
    (timings, "Timing", {"most": 2, "owed": ("f",)}), (TIMING, "allows", {"row": FR}),
    (TIMING, "kept", {"history": HISTORY, "kind": "joined"}),
    (clashes, "Clash", {"first": HISTORY, "second": CLASH.second, "state": 1}),
    (CLASH, "shows", {"question": ASKED, "lot": LOT, "timing": TIMING}),
    (clashes, "suffices", {"question": ASKED, "lot": LOT, "timing": TIMING}),
    (clashes, "clash", {"question": ASKED, "lot": LOT, "timing": TIMING}),
    (clashes, "rate", {"question": ASKED, "lot": LOT, None: None, "owed": ("r",)}),
    (watchers, "Watcher", {"question": TAKEN, "lot": LOT, "timing": TIMING, None: None, "state": 1}),
    (watcher, "look", {"reading": ("no", "no")}), (looked, "example", {"answer": "no"}),
    (watchers, "Routine", {"begin": "m", "moves": {("m", ("no",)): ["m", "no"]}}),
    (ROUTINE, "follow", {"readings": [("no", "no")]}),
    (ROUTINE, "wrong", {"question": ASKED, "lot": LOT, "timing": TIMING}),
    (watchers, "routine_of", {"question": ASKED, "lot": LOT, "timing": TIMING}),
    (least, "least", {"question": TAKEN, "rule": "cleared", "timing": TIMING}),
    (NEVER, "fooled", {"mark": KEPT}), (LATE, "due", {"before": 1, "now": 0, "state": 0}),
    (LATE, "standing", {"before": 1, "now": 0, "state": 0}),
    (onto, "onto", {"question": ASKED, "mark": least.least(ASKED, "cleared").mark}),
    (customary, "customary", {"deeds": FR, "line": "chain f , r"}), (customary, "alone", {"machine": BACK, "way": "last"}),
    (customary, "memory", {"machine": BACK}),
    (lots, "choices", {"question": ASKED, "marks": [KEPT, CLEARED], "timing": TIMING}),
    (lots, "Cheapest", {"question": ASKED, "priced": PRICED, "timing": TIMING}),
    (lots, "parting", {"clash": CLASH, "marks": [KEPT, CLEARED]}),
    (lots, "barred", {"question": ASKED, "priced": PRICED, "price": 2, "bars": [CLASH], "timing": TIMING}),
    (lots, "prices", {"question": ASKED, "priced": PRICED, "upto": 2}),
    (others, "idle", {"machine": BACK, "deed": "q"}), (others, "exposed", {"mark": CLEARED, "deed": "q"}),
    (others, "clash_among", {"question": ASKED, "lot": LOT, "deed": "q", None: None, "own": (1,), "timing": TIMING}),
    (others, "fewest_own", {"question": ASKED, "lot": LOT, "deed": "q", "timing": TIMING}),
    (others, "unserved", {"questions": [ASKED, TAKEN], "reads": [(0,), (1,)], "lot": LOT, "timing": TIMING}),
    (plans, "Plan", {"reads": (0, 0), "picks": (1,), "same": ((0, 1),), "wants": ((0, ("x",)),)}),
    (PLAN, "result", {"shown": ("x", "y", "x")}), (plans.Plan, "strictest", {"reads": (0, 1, 0)}),
    (plans, "play", {"plan": PLAN, "lot": LOT, "run": RUN}), (plans, "tear", {"plan": PLAN, "lot": LOT, "most": 2}),
    (plans, "calm", {"plan": PLAN, "lot": LOT}),
    (plans, "report", {"plan": PLAN, "lot": LOT, "machine": BACK, "when": "some", "most": 2}),
    (plans, "fewest_reads", {"lot": LOT, "reads": 3, "most": 2}),
    (plans, "leaner", {"plan": PLAN, "lot": LOT, "most": 2}),
    (desks, "Desk", {"deeds": FR}), (desk, "put", {"name": "n", "fact": AGAIN, "rule": "kept"}),
    (desk, "ask", {"name": "p", "fact": AGAIN, "kind": "carried"}), (desk, "drop", {"name": "q"}),
    (desk, "limit", {"most": 2, "owed": ("r",)}), (desk, "admit", {"deed": "q"}), (desk, "bar", {"deed": "r"}),
    (desk, "covers", {"fact": ~AGAIN, "kind": "stretch"}), (desk, "needs", {"name": "m"}), (desk, "past", {"k": 1}),
    (desks.Desk, "read", {"page": "deeds f r\nlimit 3"}), (desk, "shift", {"states": {}}),
    (shift, "happen", {"row": FR}),
]

# What has no arguments.
PLAIN = [
    (BACK, "reached"), (BACK, "least"), (watcher, "coming"), (looked, "copy"), (desk, "rate"), (desk, "undo"),
    (shift, "look"),
]

LISTED = {
    "machines": "Machine", "acts": "Act act_of acts", "texts": "fact_text read_fact", "questions": "Question",
    "facts": "Done Latest Count Turn Level Ahead Recent Ends Has Scattered Since Once Changes Retold Not And Or Xor Both",
    "histories": "History histories", "marks": "Mark Lot", "timings": "Timing", "clashes": "Clash suffices clash rate",
    "watchers": "Watcher Routine routine_of", "least": "least Least Never", "onto": "onto",
    "customary": "customary alone memory", "lots": "choices Cheapest parting barred prices",
    "others": "idle exposed clash_among fewest_own unserved",
    "plans": "Plan Reading play tear calm report Report Doubt fewest_reads leaner", "desks": "Desk Shift",
}

MEMBERS = {
    "Machine": "after path told all_rows reached apart least parting telling __len__ __eq__ __mul__",
    "Act": "times __mul__ __getitem__ __eq__ __lt__ __le__", "Question": "of due standing parting __mul__ __eq__",
    "History": "whole until without cut text read __len__ __iter__ __getitem__ __eq__ __add__",
    "Mark": "hides __eq__", "Lot": "after look readings __len__ __getitem__ __eq__", "Timing": "allows kept __eq__",
    "Clash": "looks shows __eq__", "Watcher": "look seen possible_answers possible_states coming example copy",
    "Routine": "moves follow wrong", "Never": "fooled", "Least": "due standing __len__",
    "Plan": "result strictest __len__ __eq__",
    "Desk": "put ask drop limit admit bar __getitem__ __contains__ __len__ __eq__ covers needs rate undo past page read shift",
    "Shift": "happen look history stretch",
}

SHOWN = [
    (ACT, "states image rank is_swap"), (ASKED, "machine kind core deeds"), (HISTORY, "stretches"),
    (KEPT, "machine rule"), (LOT, "marks begin"), (TIMING, "most owed"), (CLASH, "first second state"),
    (ROUTINE, "begin moves"), (LATE, "question rule mark meanings rows"), (NEVER, "question row"),
    (lots.Cheapest(ASKED, PRICED), "choice lot price bars"), (PLAN, "reads picks same wants"),
    (plans.play(PLAN, LOT, RUN)[0], "shown row stood between is_torn"), (desk(), "deeds timing lot marks questions"),
    (plans.report(PLAN, LOT, BACK, "last", 0), "answers"), (plans.report(PLAN, LOT, TURN, "last"), "row runs"),
    (BACK, "deeds rows tells start"),
]


def plain(value):
    """A value in which own objects are told by what they have, so that they may be compared."""
    if isinstance(value, (list, tuple)):
        return [plain(part) for part in value]
    if isinstance(value, dict):
        return [[plain(key), plain(part)] for key, part in value.items()]
    if hasattr(value, "__dict__"):
        return [value.__class__.__name__, *[[name, plain(part)] for name, part in sorted(vars(value).items())]]
    return value


def answer(owner, name, arguments, more):
    """What a call answers or raises, with what has become of its object."""
    thing = owner() if inspect.isfunction(owner) else owner
    try:
        found = getattr(thing, name)(*arguments, **more)
    except LooksError as error:
        found = error
    return [plain(found), None if inspect.ismodule(thing) or inspect.isclass(thing) else plain(thing)]


class Interface(unittest.TestCase):
    def test_all_names_stand_in_their_files(self):
        for module, names in LISTED.items():
            tree = ast.parse((FOLDER / f"{module}.py").read_text())
            made = {node.name for node in tree.body if isinstance(node, (ast.FunctionDef, ast.ClassDef))}
            self.assertLessEqual(set(names.split()), made)
            loaded = importlib.import_module(f"betweenlooks.{module}")
            for name in names.split():
                self.assertTrue(callable(getattr(loaded, name)))

    def test_all_methods_stand_in_their_classes(self):
        found = {}
        for path in FOLDER.glob("*.py"):
            for node in ast.walk(ast.parse(path.read_text())):
                if isinstance(node, ast.ClassDef):
                    found[node.name] = {row.name for row in node.body if isinstance(row, ast.FunctionDef)}
        for name, members in MEMBERS.items():
            self.assertLessEqual(set(members.split()), found[name], name)
        for name in LISTED["facts"].split():
            self.assertLessEqual({"told", "machine_for", "__init__"}, found[name], name)

    def test_attributes(self):
        for thing, names in SHOWN:
            for name in names.split():
                self.assertTrue(hasattr(thing, name), (thing, name))

    def test_arguments_by_name_in_another_order(self):
        for owner, name, arguments in CALLS:
            names = list(arguments)
            only = names.index(None) if None in names else len(names)
            given = {key: value for key, value in arguments.items() if key is not None}
            late = {key: given[key] for key in names[only + 1:]}
            wanted = answer(owner, name, [arguments[key] for key in names[:only]], late)
            turned = {key: given[key] for key in reversed(given)}
            self.assertEqual(answer(owner, name, [], turned), wanted, name)
            half = {key: given[key] for key in reversed(list(given)[1:])}
            self.assertEqual(answer(owner, name, [given[names[0]]], half), wanted, name)
            if late:
                with self.assertRaises(TypeError):
                    answer(owner, name, list(given.values()), {})

    def test_what_has_no_arguments(self):
        for owner, name in PLAIN:
            self.assertEqual(answer(owner, name, [], {}), answer(owner, name, [], {}))

    def test_default_values(self):
        self.assertEqual(plain(questions.Question(BACK)), plain(questions.Question(BACK, "carried")))
        self.assertEqual(histories.History(), histories.History(()))
        self.assertEqual(timings.Timing(), timings.Timing(None, ()))
        self.assertEqual(plans.Plan((0,), (0,)), plans.Plan((0,), (0,), (), ()))
        one, two = desk(), desk()
        one.limit()
        two.limit(None, ())
        self.assertEqual(one.page, two.page)

    def test_the_errors(self):
        listed = [name for name, kind in vars(errors).items() if inspect.isclass(kind)]
        self.assertEqual(len(listed), 43)
        for name in listed:
            kind = getattr(errors, name)
            self.assertEqual(kind.__bases__, (ValueError,) if name == "LooksError" else (LooksError,))


if __name__ == "__main__":
    unittest.main()
