"""Moves [5]."""

import unittest

from helping import Helping, strange_values
from loopstow.errors import BadMove, BadName
from loopstow.moves import Again, Bring, Forget, Load, Move, Store

KINDS = {"load": Load, "again": Again, "store": Store, "forget": Forget}


class Moves(Helping, unittest.TestCase):
    def test_classes(self):
        self.same(
            [kind.__bases__ for kind in (Bring, Store, Forget, Load, Again)],
            [(Move,), (Move,), (Move,), (Bring,), (Bring,)],
        )
        for name in ("read", "__eq__", "__str__"):
            self.assertIn(name, vars(Move))

    def test_fields_and_texts(self):
        for word, kind in KINDS.items():
            for name in ("a", "abcdef", "load", "forget", "z"):
                move = kind(name)
                self.same([move.word, move.name, str(move)], [word, name, f"{word} {name}"])
                self.assertLessEqual({"word", "name"}, set(vars(move)))
                self.assertIs(Move.read(f"{word} {name}").__class__, kind)
                self.assertEqual(Move.read(f"{word} {name}"), move)

    def test_no_name(self):
        for value in strange_values():
            for kind in KINDS.values():
                self.refused(BadName, lambda: kind(value), value)

    def test_no_text(self):
        for value in [
            *strange_values(), "load", "load ", " load a", "load  a", "load a ", "load a b", "Load a", "load A", "use a",
            "load a,", "load a\n", "a load", "store", "again abcdefg", "forget 1", "bring a", "move a", " a", "load\ta",
        ]:
            self.refused(BadMove, lambda: Move.read(value), value)

    def test_equal(self):
        moves = [kind(name) for kind in KINDS.values() for name in ("a", "b")]
        for index, one in enumerate(moves):
            for other_index, other in enumerate(moves):
                other = Move.read(str(other))
                self.same([one == other, one != other], [index == other_index, index != other_index])
            for value in (None, str(one), one.name):
                self.same(one == value, False)


if __name__ == "__main__":
    unittest.main()
