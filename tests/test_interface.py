"""The rows of "The interface": names, arguments, defaults, and the file in which each stands."""

import importlib
import inspect
import unittest

FUNCTIONS = {
    "words": {"is_id": "(thing)", "is_path": "(thing)", "is_ref": "(thing)", "is_author": "(thing)",
              "is_text": "(thing)"},
    "codes": {"encode": "(thing)", "decode": "(data)", "sum_of": "(data, *, short=False)",
              "id_of": "(thing, *, short=False)"},
    "history": {"commit_of": "(store, name)"},
    "revisions": {"revision_of": "(view, text)", "commits_of": "(view, text)"},
    "merging": {"differences": "(old, new)", "merged": "(bases, ours, theirs)", "merge_of": "(history, one, other)"},
    "replays": {"pick": "(store, name, onto, *, revert=False, time=None)"},
    "logs": {"log_of": "(history, heads, *, paths=(), full=False)", "touched": "(history, head)"},
    "plans": {"best": "(history, names)", "depth_of": "(history, names, plan)", "bounds": "(history, names)",
              "shows_best": "(history, names, depth, bounds)"},
    "packs": {"pack": "(store, ids)", "unpack": "(data)"},
    "cuts": {"shallow": "(store, heads, depth, *, cut=())"},
    "fetching": {"talk": "(client, server)"},
    "pushing": {
        "judge": "(store, refs, commands, *, cut=(), rules=(), force=(), atomic=False)",
        "accepted": "(store, refs, commands, *, cut=(), rules=(), force=(), atomic=False)",
        "parcel": "(store, commands, shown, *, cut=())",
    },
    "collecting": {"collect": "(repo, *, now, grace)", "expire": "(repo, *, now, age)"},
    "between": {
        "fetch": "(repo, other, word, *, now, single=False, depth=None, letters=None)",
        "push": "(repo, other, commands, word, *, now, rules=(), force=(), atomic=False, letters=None)",
    },
    "deepening": {"deepen": "(repo, other, word, *, now, depth, letters=None)"},
}

CLASSES = {
    "errors": {"ForkError": {"__init__": "(self, why='')"}},
    "objects": {
        "Blob": {"__init__": "(self, text)", "__eq__": None},
        "Tree": {"__init__": "(self, entries)", "__eq__": None},
        "Commit": {"__init__": "(self, tree, parents=(), *, author, time, message='')", "__eq__": None},
        "Tag": {"__init__": "(self, target, *, label, message='')", "__eq__": None},
    },
    "store": {
        "Store": {"__init__": "(self, *, short=False)", "put": "(self, thing)", "ids": "(self)",
                  "parts": "(self, name)", "missing": "(self, starts, *, cut=())",
                  "walk": "(self, starts, *, without=(), cut=())", "put_files": "(self, files)",
                  "files_of": "(self, name)", "copied": "(self)", "__getitem__": None, "__contains__": None,
                  "__len__": None},
    },
    "history": {
        "History": {"__init__": "(self, store, *, cut=())", "parents_of": "(self, name)",
                    "independent": "(self, names)", "bases": "(self, one, other)", "files": "(self, name)",
                    "reaches": "(self, one, other)", "generation": "(self, name)", "order": "(self, names)",
                    "first_parents": "(self, name)", "ahead_behind": "(self, one, other)", "span": "(self, names)"},
        "Span": {"ids": "(self)", "heads": "(self)", "__len__": None, "__contains__": None, "__or__": None,
                 "__and__": None, "__sub__": None, "__le__": None, "__eq__": None},
    },
    "refs": {
        "Refs": {"__init__": "(self, state=None)", "names": "(self)", "head": "(self)", "state": "(self)",
                 "at_head": "(self)", "back": "(self, name, n)", "log": "(self, name)",
                 "expire": "(self, now, *, age)", "edit": "(self, who, time, message)", "__getitem__": None,
                 "__contains__": None, "__len__": None},
    },
    "edits": {
        "Edit": {"point": "(self, ref, new, *, old='')", "delete": "(self, ref, *, old='')",
                 "stand": "(self, word, name)", "finish": "(self)", "drop": "(self)", "moves": "(self)",
                 "behind": "(self)", "__enter__": None, "__exit__": None},
    },
    "revisions": {"View": {"__init__": "(self, store, refs, *, cut=())"}},
    "changes": {
        "Change": {"__init__": "(self, rows)", "plain": "(self)", "on": "(self, files)", "is_apart": "(self, other)",
                   "__add__": None, "__neg__": None, "__eq__": None},
    },
    "replays": {
        "Replay": {"__init__": "(self, store, names, onto)", "step": "(self)", "settle": "(self, files)",
                   "skip": "(self)", "done": "(self)"},
    },
    "search": {
        "Search": {"__init__": "(self, history)", "bad": "(self, name)", "good": "(self, name)", "skip": "(self, name)",
                   "undo": "(self)", "candidates": "(self)", "next": "(self)", "found": "(self)"},
    },
    "fetching": {
        "Server": {"__init__": "(self, store, table, *, cut=())", "greet": "(self)", "take": "(self, letter)"},
        "Client": {"__init__": "(self, store, table, *, cut=(), single=False, depth=None)", "take": "(self, letter)",
                   "things": "(self)", "heads": "(self)", "cuts": "(self)"},
    },
    "disk": {
        "Disk": {"__init__": "(self, *, left=None)", "limit": "(self, left)", "write": "(self, name, data)",
                 "sync": "(self, name)", "rename": "(self, old, new)", "remove": "(self, name)",
                 "read": "(self, name)", "names": "(self)", "crashed": "(self, mask)"},
    },
    "repo": {
        "Repo": {"__init__": "(self, disk)", "stored": "(self)", "references": "(self)", "cuts": "(self)",
                 "holds": "(self)", "view": "(self)", "tick": "(self, name)", "put": "(self, thing, *, now)",
                 "commit": "(self, texts, *, author, now, message='', parents=None)",
                 "merge": "(self, name, *, author, now, message='')", "edit": "(self, who, now, message)",
                 "hold": "(self, word, names, *, now)"},
    },
    "collecting": {
        "Collector": {"__init__": "(self, repo, *, now, grace)", "step": "(self)", "garbage": "(self)"},
    },
}

PROPERTIES = (
    ("objects", "Blob", ("text",)), ("objects", "Tree", ("entries",)), ("objects", "Tag", ("target", "label", "message")),
    ("objects", "Commit", ("tree", "parents", "author", "time", "message")),
    ("revisions", "View", ("store", "refs", "history")), ("changes", "Change", ("rows",)),
    ("replays", "Replay", ("stopped", "tip")), ("disk", "Disk", ("left",)),
)

CLASS_METHODS = (("changes", "Change", "between", "(cls, old, new)"),)

GENERATORS = (("store", "Store", "walk"), ("history", "History", "order"), ("history", "History", "first_parents"))


class Interface(unittest.TestCase):
    def test_functions(self):
        for file, rows in FUNCTIONS.items():
            module = importlib.import_module(f"forkhaul.{file}")
            for name, arguments in rows.items():
                function = getattr(module, name)
                self.assertEqual(function.__module__, module.__name__)
                self.assertEqual(str(inspect.signature(function)), arguments, name)

    def test_classes_and_their_methods(self):
        for file, classes in CLASSES.items():
            module = importlib.import_module(f"forkhaul.{file}")
            for name, methods in classes.items():
                made = getattr(module, name)
                self.assertEqual(made.__module__, module.__name__)
                for method, arguments in methods.items():
                    self.assertIn(method, vars(made), f"{name} defines {method} itself")
                    if arguments is not None:
                        self.assertEqual(str(inspect.signature(vars(made)[method])), arguments, f"{name}.{method}")

    def test_generators(self):
        for file, name, method in GENERATORS:
            made = getattr(importlib.import_module(f"forkhaul.{file}"), name)
            self.assertTrue(inspect.isgeneratorfunction(vars(made)[method]))
        self.assertTrue(inspect.isgeneratorfunction(importlib.import_module("forkhaul.logs").log_of))

    def test_properties(self):
        for file, name, properties in PROPERTIES:
            made = getattr(importlib.import_module(f"forkhaul.{file}"), name)
            for word in properties:
                self.assertIsInstance(vars(made)[word], property, f"{name}.{word}")

    def test_class_methods(self):
        for file, name, method, arguments in CLASS_METHODS:
            made = getattr(importlib.import_module(f"forkhaul.{file}"), name)
            self.assertIsInstance(vars(made)[method], classmethod)
            self.assertEqual(str(inspect.signature(vars(made)[method].__func__)), arguments, f"{name}.{method}")


if __name__ == "__main__":
    unittest.main()
