"""Points 13 and 51: items that can be left out, or exchanged."""

import unittest

from tests.helpers import Picker, pick_deed, pick_script, refuse, slow_table, wrong_nameds, wrong_scripts
from twobesides.errors import InvalidNamed, InvalidScript
from twobesides.needless import exchanged_items, needless_items, spared_script

JJ, KNOW, PART = (("tie", 0, 1, word) for word in ("turn", "know", "part"))
KEEP = ("pairs", 0, (0, 0, 0, 1, 1, 1))


def without(script, at):
    return script[:at] + script[at + 1:]


def slow_needless(named, script):
    table = slow_table(named, script)
    return tuple(at for at in range(len(script)) if slow_table(named, without(script, at)) == table)


def slow_spared(named, script):
    table, at = slow_table(named, script), 0
    while at < len(script):
        if slow_table(named, without(script, at)) == table:
            script = without(script, at)
        else:
            at += 1
    return script


def slow_exchanged(named, script):
    told = []
    for at in range(len(script) - 1):
        exchanged = script[:at] + (script[at + 1], script[at]) + script[at + 2:]
        if slow_table(named, exchanged) == slow_table(named, script):
            told.append(at)
    return tuple(told)


def picked_scripts():
    """Scripts in which some items come again, so that some are needless, and some can be exchanged."""
    picker = Picker(49)
    for named, many in ((1, 60), (2, 25), (3, 2)):
        for _ in range(many):
            some = [pick_deed(picker, named) for _ in range(2)] + list(pick_script(picker, named, 1, 1)) + [KEEP]
            yield named, tuple(picker.one_of(some) for _ in range(2 + picker.below(4)))
            yield named, pick_script(picker, named, 2 + picker.below(3), 1)


class Needless(unittest.TestCase):
    def test_picked_scripts(self):
        found = []
        for named, script in picked_scripts():
            told = needless_items(named, script)
            self.assertEqual(told, slow_needless(named, script))
            found.append(len(told))
        self.assertGreater(len(set(found)), 3)

    def test_edges(self):
        for named in (1, 2, 3):
            self.assertEqual(needless_items(named, ()), ())
            self.assertEqual(needless_items(named, (KEEP,)), (0,))
            self.assertEqual(needless_items(named, (KEEP,) * 30), tuple(range(30)))
        self.assertEqual(needless_items(2, (JJ,)), ())
        self.assertEqual(needless_items(2, (JJ, KNOW, ("ask", 0, 1, (), (JJ,)))), (0, 1, 2))
        self.assertEqual(needless_items(2, (JJ, PART, ("ask", 1, 0, (), (KEEP,)))), (0, 2))

    def test_items_in_choices_are_not_told(self):
        self.assertEqual(needless_items(2, (("ask", 0, 1, (KNOW,), (KNOW,)),)), ())


class Spared(unittest.TestCase):
    def test_picked_scripts(self):
        for named, script in picked_scripts():
            self.assertEqual(spared_script(named, script), slow_spared(named, script))

    def test_looked_at_in_order(self):
        again = ("tie", 1, 0, "know")
        self.assertEqual(spared_script(2, (KNOW, again)), (again,))
        self.assertEqual(spared_script(2, (again, KNOW)), (KNOW,))
        self.assertEqual(spared_script(2, (JJ, JJ)), (JJ, JJ))
        self.assertEqual(spared_script(2, (PART, JJ, KNOW)), (KNOW,))
        self.assertEqual(spared_script(2, (KEEP, JJ, KEEP, PART, KEEP)), (PART,))

    def test_edges(self):
        for named in (1, 2, 3):
            self.assertEqual(spared_script(named, ()), ())
            self.assertEqual(spared_script(named, (KEEP,) * 30), ())
            self.assertEqual(spared_script(named, (("pairs", 0, (0,) * 6),) * 30), (("pairs", 0, (0,) * 6),))
        self.assertEqual(spared_script(3, (JJ,) * 30), (JJ,) * 30)
        choice = ("ask", 0, 1, (KEEP, PART), (KEEP,))
        self.assertEqual(spared_script(2, (choice, KNOW, choice)), (choice,))


class Exchanged(unittest.TestCase):
    def test_picked_scripts(self):
        found = []
        for named, script in picked_scripts():
            told = exchanged_items(named, script)
            self.assertEqual(told, slow_exchanged(named, script))
            found.append(len(told))
        self.assertGreater(len(set(found)), 2)

    def test_edges(self):
        for named in (1, 2, 3):
            self.assertEqual(exchanged_items(named, ()), ())
            self.assertEqual(exchanged_items(named, (KEEP,)), ())
            self.assertEqual(exchanged_items(named, (KEEP, KEEP)), (0,))
            self.assertEqual(exchanged_items(named, (KEEP,) * 30), tuple(range(29)))
        self.assertEqual(exchanged_items(2, (JJ, KNOW, PART)), (0,))
        self.assertEqual(exchanged_items(2, (KNOW, PART, JJ)), ())
        self.assertEqual(exchanged_items(2, (KNOW, PART, KEEP, PART)), (0, 1, 2))
        self.assertEqual(exchanged_items(2, (JJ, KNOW, KEEP, PART, JJ)), (0, 1, 2))


class WrongArguments(unittest.TestCase):
    def test_wrong_arguments(self):
        for function in (needless_items, spared_script, exchanged_items):
            for named in (1, 2, 3):
                refuse(self, function, [
                    (named, InvalidNamed, wrong_nameds()), ((KEEP,), InvalidScript, wrong_scripts(named)),
                ])


if __name__ == "__main__":
    unittest.main()
