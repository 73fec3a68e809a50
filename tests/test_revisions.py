"""[5.1] to [5.5] Views, and the values of revisions and of sets of commits."""

import unittest

from forkhaul.errors import BadExpression, BadName, NoObject, NoRef
from forkhaul.history import History
from forkhaul.objects import Blob, Commit, Tag, Tree
from forkhaul.refs import Refs
from forkhaul.revisions import View, commits_of, revision_of
from forkhaul.store import Store
from tests.helpers import MOST, ONE, TWO, ZERO, Case, World, no_names


class Views(Case):
    def test_properties(self):
        store, refs = Store(), Refs()
        view = View(store, refs)
        self.assertIs(view.store, store)
        self.assertIs(view.refs, refs)
        self.assertIs(type(view.history), History)
        world = World()
        root = world.commit("root")
        child = world.commit("child", root)
        self.assertEqual(View(world.store, refs).history.parents_of(child), (root,))
        self.assertEqual(View(store=world.store, refs=refs, cut=(child,)).history.parents_of(child), ())

    def test_they_are_read_alone(self):
        view = View(Store(), Refs())
        for name in ("store", "refs", "history"):
            with self.assertRaises(AttributeError):
                setattr(view, name, None)

    def test_wrong_cuts(self):
        View(Store(), Refs(), cut=(ONE, ONE))
        for wrong in no_names():
            self.assert_error(BadName, lambda: View(Store(), Refs(), cut=wrong))


class Values(Case):
    """A line with a side and a merge, tags, and references to them."""

    def setUp(self):
        world = self.world = World()
        store = self.store = world.store
        self.blob = store.put(Blob("a"))
        self.tree = store.put_files({"a": ("file", self.blob), "d/b.c": ("exec", self.blob), "d/e/f": ("file", TWO)})
        self.root = world.commit("root\nwith more", time=1)
        self.base = world.commit("base fix", self.root, time=2)
        self.left = store.put(Commit(self.tree, (self.base,), author="ann", time=3, message="left fix"))
        self.right = world.commit("right fix", self.base, time=4)
        self.merge = world.commit("merge", self.left, self.right, self.root, time=5)
        self.alone = world.commit("alone fix", time=9)
        self.tag = store.put(Tag(self.merge, label="v1"))
        self.tag_of_tag = store.put(Tag(self.tag, label="v2"))
        self.tag_of_tree = store.put(Tag(self.tree, label="v3"))
        self.tag_of_blob = store.put(Tag(self.blob, label="v4"))
        self.tag_of_none = store.put(Tag(ONE, label="v5"))
        self.refs = Refs()
        for at, name in enumerate((self.root, self.base, self.left, self.merge), start=1):
            self.point("main", name, at)
        for ref, name in (("far/x/main", self.right), ("alone", self.alone), ("tag", self.tag_of_tag),
                          ("tree", self.tree), ("tagged-tree", self.tag_of_tree), ("blob", self.blob),
                          ("tagged-blob", self.tag_of_blob), ("lost", ONE), ("tagged-none", self.tag_of_none)):
            self.point(ref, name, 9)
        self.view = View(self.store, self.refs)

    def point(self, ref, name, time=9):
        edit = self.refs.edit("ann", time, "")
        edit.point(ref, name)
        edit.finish()

    def stand(self, word, name):
        edit = self.refs.edit("ann", 9, "")
        edit.stand(word, name)
        edit.finish()

    def revision(self, text):
        return revision_of(self.view, text)

    def set(self, text):
        return commits_of(self.view, text)

    def assert_values(self, rows):
        for text, name in rows:
            self.assertEqual(self.revision(text), name, text)

    def assert_bad(self, text, at):
        self.assert_error(BadExpression, revision_of, self.view, text, at=at)

    def assert_bad_set(self, text, at):
        self.assert_error(BadExpression, commits_of, self.view, text, at=at)


class Atoms(Values):
    def test_head(self):
        self.assert_values((("HEAD", self.merge), ("@", self.merge)))
        self.stand("ref", "alone")
        self.assert_values((("HEAD", self.alone), ("@", self.alone)))
        self.stand("id", MOST)
        self.assert_values((("HEAD", MOST), ("@", MOST)))
        self.stand("ref", "absent")
        for text in ("HEAD", "@", "HEAD~", "@^{tree}", ":/x"):
            self.assert_error(NoRef, self.revision, text, name="HEAD")
        self.assertEqual(revision_of(view=self.view, text="main"), self.merge)

    def test_references(self):
        self.assert_values((("main", self.merge), ("far/x/main", self.right), ("tag", self.tag_of_tag),
                            ("tree", self.tree), ("blob", self.blob), ("lost", ONE)))
        for name in ("absent", "mai", "main/x", "far/x", "far", "a", "-", "tag-of-blob"):
            self.assert_error(NoRef, self.revision, name, name=name)
            self.assert_error(NoRef, self.revision, name + "~", name=name)

    def test_ids(self):
        for name in (self.merge, self.blob, self.tree, self.tag):
            self.assertEqual(self.revision(name), name)
        for name in (ONE, ZERO, "0123456789abcdef"):
            self.assert_error(NoObject, self.revision, name, name=name)
            self.assert_error(NoObject, self.set, "main " + name, name=name)

    def test_prefixes(self):
        for name in self.store.ids():
            for many in range(4, 16):
                same = [other for other in self.store.ids() if other.startswith(name[:many])]
                if len(same) == 1:
                    self.assertEqual(self.revision(name[:many]), name)
            self.assert_error(NoRef, self.revision, name[:3], name=name[:3])
        for text in ("0123", "abcdefabcdef", "0123456789abc", "0123456789abcde"):
            self.assert_error(NoRef, self.revision, text, name=text)

    def test_prefixes_of_several_ids(self):
        first = {}
        number = 0
        while True:
            name = self.store.put(Blob(f"n{number}"))
            if name[:4] in first:
                break
            first[name[:4]] = name
            number += 1
        self.assert_bad(name[:4], 0)
        self.assert_bad(name[:4] + "~", 0)
        self.assert_bad_set("main  main.." + name[:4], 12)
        self.assert_bad_set("^" + name[:4], 1)
        many = min([at for at in range(16) if name[at] != first[name[:4]][at]]) + 1
        self.assertEqual(self.revision(name[:many]), name)
        self.point(name[:4], self.right)
        self.assertEqual(self.revision(name[:4]), self.right)

    def test_a_reference_goes_ahead_of_a_prefix(self):
        for many in (4, 8, 12):
            text = self.alone[:many]
            self.assertEqual(self.revision(text), self.alone)
            self.point(text, self.root)
            self.assertEqual(self.revision(text), self.root)
            self.assertEqual(self.revision(text + "@{0}"), self.root)
        self.assertEqual(self.revision(self.alone[:13]), self.alone)
        self.assertEqual(self.revision(self.alone), self.alone)
        short = self.alone[:3]
        self.assert_error(NoRef, self.revision, short, name=short)
        self.point(short, self.root)
        self.assertEqual(self.revision(short), self.root)

    def test_prefixes_of_figures_alone(self):
        self.assert_error(NoRef, self.revision, "wxyz", name="wxyz")
        text = self.alone[:4] + "/x"
        self.assert_error(NoRef, self.revision, text, name=text)
        self.point(text, self.root)
        self.assertEqual(self.revision(text), self.root)
        self.assertEqual(self.revision(self.alone[:4]), self.alone)

    def test_logs(self):
        names = (self.merge, self.left, self.base, self.root)
        for at, name in enumerate(names):
            self.assert_values(((f"main@{{{at}}}", name), (f"HEAD@{{{at}}}", name), (f"@{{{at}}}", name),
                                (f"@{{{at:04d}}}", name), (f"main@{{{at:03d}}}~0", name)))
        for text in ("main@{4}", "main@{5}", "HEAD@{4}", "@{4}", "@{9999}", "absent@{0}", "alone@{1}", "main@{0004}"):
            self.assert_bad(text, 0)
            self.assert_bad_set("HEAD " + text, 5)
        self.stand("ref", "alone")
        self.assert_values((("@{0}", self.alone), ("HEAD@{1}", self.merge), ("@{4}", self.root), ("main@{0}", self.merge)))
        self.assert_bad("@{5}", 0)

    def test_logs_of_deleted_and_expired_references(self):
        edit = self.refs.edit("ann", 9, "")
        edit.delete("main")
        edit.finish()
        self.assert_bad("main@{0}", 0)
        self.assert_bad("@{0}", 0)
        self.assert_values((("main@{1}", self.merge), ("@{1}", self.merge)))
        self.assert_error(NoRef, self.revision, "main", name="main")
        self.refs.expire(9, age=6)
        self.assert_values((("main@{2}", self.left), ("main@{3}", self.base)))
        self.assert_bad("main@{4}", 0)

    def test_words(self):
        self.assert_values(((":/fix", self.right), (":/left", self.left), (":/root", self.root), (":/e", self.merge),
                            (":/\n", self.root), (":/t\nw", self.root), (":/merge", self.merge), (":/se", self.base)))
        for text in (":/alone", ":/Fix", ":/mergee", ":/fix~", ":/root^{tree}", ":/root:a"):
            self.assert_bad(text, 0)
            self.assert_bad_set("main ^" + text, 6)

    def test_words_in_the_order_of_the_history(self):
        late = self.world.commit("word", self.root, time=50)
        early = self.world.commit("word", late, time=3)
        other = self.world.commit("word", self.root, time=20)
        self.stand("id", self.world.commit("top", early, other, time=1))
        self.assertEqual(self.revision(":/word"), other)
        self.stand("id", early)
        self.assertEqual(self.revision(":/word"), early)
        twins = [self.world.commit(f"twin {number}", time=7) for number in range(6)]
        self.stand("id", self.world.commit("top", *twins))
        self.assertEqual(self.revision(":/twin"), min(twins))

    def test_words_with_a_cut(self):
        view = View(self.store, self.refs, cut=(self.left,))
        self.assertEqual(revision_of(view, ":/root"), self.root)
        view = View(self.store, self.refs, cut=(self.merge,))
        self.assertEqual(revision_of(view, ":/merge"), self.merge)
        self.assert_error(BadExpression, revision_of, view, ":/root", at=0)

    def test_words_from_other_heads(self):
        self.stand("ref", "tag")
        self.assertEqual(self.revision(":/left"), self.left)
        for name in ("blob", "tree", "tagged-tree", "tagged-blob"):
            self.stand("ref", name)
            self.assert_bad(":/left", 0)
            self.assert_bad_set("main main..:/left", 11)
        for name in ("lost", "tagged-none"):
            self.stand("ref", name)
            self.assert_error(NoObject, self.revision, ":/left", name=ONE)
        self.stand("id", TWO)
        self.assert_error(NoObject, self.revision, ":/left", name=TWO)


class Suffixes(Values):
    def test_first_parents(self):
        self.assert_values((("main~0", self.merge), ("main~", self.left), ("main~1", self.left), ("main~2", self.base),
                            ("main~3", self.root), ("main~0003", self.root), ("main~~", self.base), ("main~~1~", self.root),
                            ("far/x/main~2", self.root), ("@~2", self.base), ("@{1}~", self.base),
                            (self.merge + "~", self.left), (self.merge[:6] + "~2~0", self.base)))
        for text, at in (("main~4", 4), ("main~9999", 4), ("main~3~", 6), ("main~~~~", 7), ("alone~", 5), ("@~1~2~1", 5)):
            self.assert_bad(text, at)

    def test_parents(self):
        self.assert_values((("main^0", self.merge), ("main^", self.left), ("main^1", self.left), ("main^2", self.right),
                            ("main^3", self.root), ("main^0003", self.root), ("main^^", self.base), ("main^2^", self.base),
                            ("main^2^1^0^", self.root), ("main^2~", self.base), ("main~^", self.base)))
        for text, at in (("main^4", 4), ("main^9999", 4), ("main^3^", 6), ("main^2^2", 6), ("alone^", 5), ("main^^^^", 7)):
            self.assert_bad(text, at)

    def test_commits_and_trees(self):
        self.assert_values((("main^{commit}", self.merge), ("tag^{commit}", self.merge), ("tag", self.tag_of_tag),
                            ("main~^{tree}", self.tree), ("tree^{tree}", self.tree), ("tagged-tree^{tree}", self.tree),
                            ("tag~1^{tree}^{tree}", self.tree), ("main^{tree}", self.world.tree)))
        for text, at in (("tree^{commit}", 4), ("blob^{commit}", 4), ("tagged-tree^{commit}", 11), ("blob^{tree}", 4),
                         ("tagged-blob^{tree}", 11), ("main^{tree}^{commit}", 11), ("main^{tree}~0", 11)):
            self.assert_bad(text, at)

    def test_tags_in_front_of_suffixes(self):
        self.assert_values((("tag~0", self.merge), ("tag^0", self.merge), ("tag~", self.left), ("tag^2", self.right),
                            ("tag~1:a", self.blob), ("tagged-tree:a", self.blob), (self.tag + "~", self.left),
                            ("tagged-tree", self.tag_of_tree)))
        for text, at in (("tagged-tree~0", 11), ("tagged-blob^0", 11), ("tagged-blob:a", 11), ("blob~", 4), ("tree^", 4)):
            self.assert_bad(text, at)

    def test_a_tag_in_a_tree_and_a_commit(self):
        tree = self.store.put(Tree({"t": ("file", self.tag), "c": ("dir", self.left), "x": ("dir", self.tree)}))
        self.point("odd", tree)
        self.assert_values((("odd:t", self.tag), ("odd:c", self.left), ("odd:x/d", self.store[self.tree].entries["d"][1])))
        for text in ("odd:c/a", "odd:t/a", "odd:x/a/a"):
            self.assert_bad(text, 3)

    def test_paths(self):
        entries = self.store[self.tree].entries
        inner = self.store[entries["d"][1]].entries["e"][1]
        for front in ("main~", "main~^{tree}", "tree", "tagged-tree", "@~", "@{1}", "main@{1}", self.tree, self.left[:9]):
            for path, name in (("a", self.blob), ("d", entries["d"][1]), ("d/b.c", self.blob), ("d/e", inner),
                               ("d/e/f", TWO)):
                self.assertEqual(self.revision(f"{front}:{path}"), name)
            for path in ("b", "d/a", "a/d", "d/e/f/a", "d/b.c/x", "d/e/e", "aa", "d.e"):
                self.assert_bad(f"{front}:{path}", len(front))

    def test_trees_that_are_not_there(self):
        lost = self.store.put(Commit(ZERO, author="ann", time=1))
        self.point("lost-tree", lost)
        self.assertEqual(self.revision("lost-tree^{tree}"), ZERO)
        self.assert_error(NoObject, self.revision, "lost-tree:a", name=ZERO)
        self.assert_error(NoObject, self.revision, "lost-tree^{tree}^{tree}", name=ZERO)
        deep = self.store.put(Tree({"a": ("dir", TWO), "b": ("dir", self.blob), "c": ("file", self.tree)}))
        self.point("deep", deep)
        self.assertEqual(self.revision("deep:a"), TWO)
        self.assert_error(NoObject, self.revision, "deep:a/a", name=TWO)
        self.assert_bad("deep:b/a", 4)
        self.assert_bad("deep:c/a", 4)
        self.point("odd", self.store.put(Commit(self.blob, author="ann", time=1)))
        self.assertEqual(self.revision("odd^{tree}"), self.blob)
        self.assert_bad("odd:a", 3)
        self.assert_bad("odd^{tree}^{tree}", 10)

    def test_ids_are_looked_up_where_they_are_needed(self):
        for text in ("lost", "lost@{0}"):
            self.assertEqual(self.revision(text), ONE)
            for suffix in ("~0", "^0", "^{commit}", "^{tree}", ":a", "~", "^2"):
                self.assert_error(NoObject, self.revision, text + suffix, name=ONE)
            self.assert_error(NoObject, self.set, text, name=ONE)
        self.assertEqual(self.revision("tagged-none"), self.tag_of_none)
        self.assert_error(NoObject, self.revision, "tagged-none~0", name=ONE)
        child = self.world.commit("child", MOST)
        self.point("child", child)
        self.assertEqual(self.revision("child^"), MOST)
        self.assert_error(NoObject, self.revision, "child^^0", name=MOST)

    def test_parents_that_are_no_commits(self):
        self.point("odd", self.world.commit("odd", self.blob))
        self.assertEqual(self.revision("odd~"), self.blob)
        self.assert_bad("odd~2", 3)
        self.assert_bad("odd~~", 4)
        self.assert_bad("odd^^0", 4)
        self.assert_bad_set("main odd~", 5)

    def test_parents_are_those_of_the_history(self):
        view = View(self.store, self.refs, cut=(self.left, self.merge))
        for text, at in (("main~", 4), ("main^2", 4), (self.left + "^", 16)):
            self.assert_error(BadExpression, revision_of, view, text, at=at)
        self.assertEqual(revision_of(view, "main^{tree}"), self.world.tree)
        self.assertEqual(revision_of(view, self.left + ":a"), self.blob)
        self.assertEqual(revision_of(view, "far/x/main~2"), self.root)
        self.assertEqual(revision_of(View(self.store, self.refs, cut=(self.left,)), "main~1"), self.left)
        self.assert_error(BadExpression, revision_of, View(self.store, self.refs, cut=(self.left,)), "main~2", at=4)


class Sets(Values):
    def assert_sets(self, rows):
        for text, names in rows:
            self.assertEqual(self.set(text), tuple(sorted(names)), text)

    def setUp(self):
        super().setUp()
        self.line = (self.root, self.base)
        self.all = (self.root, self.base, self.left, self.right, self.merge)

    def test_one_term(self):
        self.assert_sets((("main", self.all), ("main~", (*self.line, self.left)), ("main~3", (self.root,)),
                          ("^main", ()), ("tag", self.all), ("alone", (self.alone,)), ("  HEAD ", self.all),
                          (self.left, (*self.line, self.left)), (":/left", (*self.line, self.left))))

    def test_several_terms(self):
        self.assert_sets((("main~ alone", (*self.line, self.left, self.alone)), ("main ^main~", (self.right, self.merge)),
                          ("^main~  main", (self.right, self.merge)), ("main ^main~ ^main^2", (self.merge,)),
                          ("main~ main^2", (*self.line, self.left, self.right)), ("^main main", ()),
                          ("main ^alone", self.all), ("main main", self.all), ("^main~2 alone tag", (
                              self.left, self.right, self.merge, self.alone)), ("main ^@^2", (self.left, self.merge))))

    def test_two_dots(self):
        self.assert_sets((("main~..main", (self.right, self.merge)), ("main..main~", ()), ("main~..far/x/main", (self.right,)),
                          ("main~2..", (self.left, self.right, self.merge)), ("..main", ()), ("..alone", (self.alone,)),
                          ("main^2..@", (self.left, self.merge)), ("alone..", self.all), ("tag^2..tag", (self.left, self.merge)),
                          ("main~..main ^main^2", (self.merge,)), ("main..alone main~3", (self.alone,)),
                          ("@{3}..@{0}", (self.base, self.left, self.right, self.merge))))

    def test_three_dots(self):
        self.assert_sets((("main~...main^2", (self.left, self.right)), ("main^2...main~", (self.left, self.right)),
                          ("main...alone", (*self.all, self.alone)), ("main~...", (self.right, self.merge)),
                          ("...main~2", (self.left, self.right, self.merge)), ("main...main", ()),
                          ("main~...main^2 ^far/x/main", (self.left,)), ("...alone ^main~", (
                              self.right, self.merge, self.alone))))

    def test_several_bases(self):
        cross = self.world.commit("cross", self.right, self.left, time=6)
        self.point("cross", cross)
        self.assert_sets((("main...cross", (self.merge, cross)), ("cross...main", (self.merge, cross)),
                          ("cross...main~", (self.right, cross)), ("cross...alone", (*self.line, self.left, self.right,
                                                                                     cross, self.alone))))

    def test_parents_of_a_term(self):
        self.assert_sets((("main^@", (*self.line, self.left, self.right)), ("main^!", (self.merge,)),
                          ("main~^@", self.line), ("main~^!", (self.left,)), ("alone^@", ()), ("alone^!", (self.alone,)),
                          ("main~3^@", ()), ("@^@ ^main~", (self.right,)), ("tag^@", (*self.line, self.left, self.right)),
                          ("main^! main~3", (self.merge,)), ("main^2^! alone^!", (self.right, self.alone)),
                          ("main^!  main~^@", (self.merge,)), (":/lef  alone^!", (*self.line, self.left, self.alone)),
                          ("main^@ ^main~2", (self.left, self.right)), ("main^^!", (self.left,))))

    def test_cuts(self):
        view = View(self.store, self.refs, cut=(self.left, self.base))
        self.assertEqual(commits_of(view, "main~"), (self.left,))
        self.assertEqual(commits_of(view, "main~^@"), ())
        self.assertEqual(commits_of(view, "main~^!"), (self.left,))
        self.assertEqual(commits_of(view=view, text="main~...main^2"), tuple(sorted([self.left, self.right, self.base])))

    def test_a_set_stays_as_it_is(self):
        names = self.set("main")
        self.point("main", self.alone)
        self.assertEqual(names, tuple(sorted(self.all)))
        self.assertEqual(self.set("main"), (self.alone,))

    def test_what_leads_to_no_commit(self):
        for name in ("tree", "blob", "tagged-tree", "tagged-blob", "main^{tree}", "main~:a", "main~:d"):
            for text, at in ((name, 0), ("^" + name, 1), ("main " + name, 5), ("main.." + name, 6),
                             ("main..." + name, 7), ("..." + name, 3), ("^main ^" + name, 7)):
                self.assert_bad_set(text, at)
            if ":" not in name:
                self.assert_bad_set(name + "..x", 0)
                self.assert_bad_set("main " + name + "...", 5)
        for name in ("tree", "blob", "tagged-tree"):
            for text, at in ((name + "^@", 0), ("main " + name + "^!", 5)):
                self.assert_bad_set(text, at)
        self.assert_error(NoObject, self.set, "main lost", name=ONE)
        self.assert_error(NoObject, self.set, "tagged-none..main", name=ONE)

    def test_a_head_that_is_no_commit(self):
        self.stand("ref", "blob")
        for text, at in (("..main", 0), ("main..", 6), (" ...main", 1), ("main... main", 7), ("@^@", 0), ("^@", 1),
                         ("main ..main", 5)):
            self.assert_bad_set(text, at)
        self.stand("ref", "absent")
        for text in ("..main", "main..", "...main", "main...", "main @", "^HEAD", "@^!"):
            self.assert_error(NoRef, self.set, text, name="HEAD")
        self.stand("id", TWO)
        self.assert_error(NoObject, self.set, "main..", name=TWO)


class OrderOfErrors(Values):
    def test_all_is_read_before_anything_is_looked_up(self):
        for text, at in (("absent~ {", 8), ("absent:A", 7), ("absent ^absent^@", 14), ("main~9 main:", 12),
                         ("tree^0 @{", 9), (ONE + " H", 17), ("lost~ a..b..c", 10)):
            self.assert_bad_set(text, at)
        for text, at in (("absent{", 6), ("main~9~x", 7), ("blob~:A", 6), (ONE + "~x", 17), ("absent ", 6), ("lost~^@", 5)):
            self.assert_bad(text, at)

    def test_the_first_revision_from_the_left(self):
        self.assert_error(NoRef, self.set, "absent main~9", name="absent")
        self.assert_error(NoRef, self.set, "main x main~9 y", name="x")
        self.assert_bad_set("main~9 absent", 4)
        self.assert_bad_set("tree absent", 0)
        self.assert_bad_set("tree..absent", 0)
        self.assert_error(NoRef, self.set, "x..y", name="x")
        self.assert_error(NoRef, self.set, "main..y", name="y")
        self.assert_error(NoRef, self.set, "main...y z", name="y")
        self.assert_error(NoObject, self.set, "main ^lost absent", name=ONE)
        self.assert_bad_set("main main@{7} " + ONE, 5)
        self.assert_error(NoObject, self.set, ONE + " main@{7}", name=ONE)
        self.stand("ref", "absent")
        self.assert_error(NoRef, self.set, "..x", name="HEAD")
        self.assert_error(NoRef, self.set, "x..", name="x")

    def test_the_first_suffix_from_the_left(self):
        self.assert_bad("main~9^9:x", 4)
        self.assert_bad("main~1^9:x", 6)
        self.assert_bad("main~1^1:x", 8)
        self.assert_bad("blob~9", 4)
        self.assert_bad("main^{tree}~1:a", 11)


if __name__ == "__main__":
    unittest.main()
