"""[4.2] Spans."""

import unittest

from forkhaul.errors import BadName, BadObject, NoObject
from forkhaul.history import History, Span
from forkhaul.objects import Blob
from tests.helpers import ONE, Diamond, odd_things


class Spans(Diamond):
    def span(self, *names):
        return self.history.span(names)

    def test_len_and_ids(self):
        self.assertEqual((len(self.span()), self.span().ids(), self.span().heads()), (0, (), ()))
        span = self.history.span(names=(self.merge, self.left, self.merge))
        self.assertIs(type(span), Span)
        self.assertEqual(len(span), 4)
        self.assertEqual(span.ids(), self.ascending(self.root, self.left, self.right, self.merge))
        self.assertEqual(self.span(self.root, self.alone).ids(), self.ascending(self.root, self.alone))

    def test_in(self):
        span = self.span(self.left)
        self.assertIs(self.left in span, True)
        self.assertIs(self.root in span, True)
        for thing in [*odd_things(), self.right, ONE, self.world.tree, (self.left,), self.left[:-1]]:
            self.assertIs(thing in span, False)

    def test_heads(self):
        self.assertEqual(self.span(self.merge, self.left).heads(), (self.merge,))
        self.assertEqual(self.span(self.left, self.right).heads(), self.ascending(self.left, self.right))
        self.assertEqual(self.span(self.root, self.alone).heads(), self.ascending(self.root, self.alone))

    def test_union(self):
        both = self.span(self.left) | self.span(self.right)
        self.assertIs(type(both), Span)
        self.assertEqual(both, self.span(self.left, self.right))
        self.assertEqual(both.ids(), self.ascending(self.left, self.right, self.root))
        self.assertEqual(both.heads(), self.ascending(self.left, self.right))
        self.assertEqual(len(both), 3)
        self.assertEqual(self.span() | self.span(self.left), self.span(self.left))

    def test_intersection(self):
        both = self.span(self.left, self.alone) & self.span(self.merge)
        self.assertIs(type(both), Span)
        self.assertEqual(both, self.span(self.left))
        self.assertEqual(both.heads(), (self.left,))
        self.assertEqual((self.span(self.left) & self.span(self.right)).ids(), (self.root,))
        self.assertEqual((self.span(self.alone) & self.span(self.right)).ids(), ())

    def test_difference(self):
        self.assertEqual(self.span(self.merge) - self.span(self.left), self.ascending(self.right, self.merge))
        self.assertEqual(self.span(self.left) - self.span(self.merge), ())
        self.assertEqual(self.span(self.left) - self.span(), self.ascending(self.left, self.root))

    def test_below(self):
        self.assertIs(self.span(self.left) <= self.span(self.merge), True)
        self.assertIs(self.span(self.merge) <= self.span(self.left), False)
        self.assertIs(self.span(self.left) <= self.span(self.left), True)
        self.assertIs(self.span(self.left) <= self.span(self.right), False)
        self.assertIs(self.span() <= self.span(), True)
        self.assertIs(self.span() <= self.span(self.root), True)
        self.assertIs(self.span(self.root) <= self.span(), False)

    def test_spans_that_operators_made(self):
        both = (self.span(self.left) | self.span(self.alone)) & (self.span(self.merge) | self.span(self.alone))
        self.assertEqual(both.ids(), self.ascending(self.root, self.left, self.alone))
        self.assertEqual(both - (self.span(self.alone) & both), self.ascending(self.root, self.left))
        self.assertTrue(both <= both | self.span(self.merge))

    def test_operands_stay_as_they_are(self):
        one, other = self.span(self.left), self.span(self.right)
        ones, others = one.ids(), other.ids()
        for made in (one | other, one & other, one - other, one <= other):
            self.assertIsNotNone(made)
        self.assertEqual((one.ids(), other.ids()), (ones, others))

    def test_wrong_operands(self):
        span = self.span(self.left)
        foreign = History(self.world.store).span((self.left,))
        for thing in [*odd_things(), foreign, foreign | foreign, self.left, span.ids(), {self.left}]:
            self.assert_error(BadName, lambda: span | thing)
            self.assert_error(BadName, lambda: span & thing)
            self.assert_error(BadName, lambda: span - thing)
            self.assert_error(BadName, lambda: span <= thing)

    def test_equality(self):
        span = self.span(self.left)
        self.assertIs(span == self.span(self.left, self.root), True)
        self.assertIs(span != self.span(self.left, self.root), False)
        self.assertIs(span == History(self.world.store).span((self.left,)), True)
        self.assertIs(span == History(self.world.store.copied(), cut=(ONE,)).span((self.left,)), True)
        self.assertIs(span == self.span(self.right), False)
        self.assertIs(span == self.span(self.root), False)
        self.assertIs(span == self.span(self.merge), False)
        self.assertIs(span == History(self.world.store, cut=(self.left,)).span((self.left,)), False)
        self.assertIs(span | self.span(self.right) == self.span(self.right) | span, True)
        for thing in [*odd_things(), span.ids(), list(span.ids()), set(span.ids())]:
            self.assertIs(span == thing, False)
            self.assertIs(thing == span, False)

    def test_empty_spans_are_equal(self):
        self.assertIs(self.span() == History(self.world.store).span(()), True)
        self.assertIs(self.span() == (), False)

    def test_it_stays_as_it_is(self):
        span = self.span(self.left)
        before = span.ids()
        child = self.world.commit("child", self.left)
        self.world.commit("grandchild", child)
        self.assertEqual((span.ids(), span.heads(), len(span)), (before, (self.left,), 2))
        self.assertFalse(child in span)
        self.assertTrue(child in self.span(child))

    def test_cuts(self):
        cut = History(self.world.store, cut=(self.left,))
        span = cut.span((self.left, self.right))
        self.assertEqual(span.ids(), self.ascending(self.left, self.right, self.root))
        self.assertEqual(span.heads(), self.ascending(self.left, self.right))
        self.assertEqual(cut.span((self.left,)).ids(), (self.left,))
        self.assertEqual(cut.span((self.left, self.root)).heads(), self.ascending(self.left, self.root))

    def test_it_is_not_iterable(self):
        self.assertRaises(TypeError, iter, self.span(self.left))
        self.assertRaises(TypeError, list, self.span(self.left))
        self.assertRaises(TypeError, sorted, self.span())

    def test_errors(self):
        self.assert_error(BadName, self.history.span, [self.left])
        self.assert_error(BadName, self.history.span, self.left)
        self.assert_error(NoObject, self.history.span, (self.left, ONE), name=ONE)
        self.assert_error(BadObject, self.history.span, (self.left, self.world.store.put(Blob("a"))), at=0)
        self.assert_error(NoObject, self.span, self.world.commit("lost", ONE), name=ONE)


if __name__ == "__main__":
    unittest.main()
