"""Points 12 and 50: alike scripts and parting companies."""

import unittest

from tests.helpers import Picker, deep_script, every_deed, pick_deed, pick_script, refuse, slow_companies_with_two_besides
from tests.helpers import slow_done, slow_table, wrong_lots, wrong_nameds, wrong_scripts
from twobesides.alikes import alike_classes, parting_company, scripts_alike
from twobesides.errors import InvalidNamed, InvalidScript, InvalidScripts

JJ, MM = ("tie", 0, 1, "turn"), ("pairs", 0, (0, 0, 1, 1, 1, 1))
KNOW, PART = ("tie", 0, 1, "know"), ("tie", 0, 1, "part")
KEEP = ("pairs", 0, (0, 0, 0, 1, 1, 1))


def slow_parting(named, script, beside):
    for company in slow_companies_with_two_besides(named):
        if slow_done(company, script) != slow_done(company, beside):
            return company
    return None


def picked_pairs(seed, named, many):
    """Pairs of scripts: some have nothing in common, others differ by one item."""
    picker = Picker(seed)
    pairs = []
    for _ in range(many):
        script = pick_script(picker, named, 1 + picker.below(3))
        pairs.append((script, pick_script(picker, named, picker.below(3))))
        pairs.append((script, script + (pick_deed(picker, named),)))
        pairs.append((script + (pick_deed(picker, named),), script + (pick_deed(picker, named),)))
    return pairs


class Alike(unittest.TestCase):
    def test_picked_scripts(self):
        for named, many in ((1, 40), (2, 15), (3, 2)):
            for script, beside in picked_pairs(42 + named, named, many):
                alike = slow_table(named, script) == slow_table(named, beside)
                self.assertIs(scripts_alike(named, script, beside), alike)

    def test_deeds_for_one_named_one(self):
        tables = {deed: slow_table(1, (deed,)) for deed in every_deed(1)}
        for deed in tables:
            for other in tables:
                self.assertIs(scripts_alike(1, (deed,), (other,)), tables[deed] == tables[other])

    def test_scripts_with_choices_alike_to_ones_without(self):
        rows = [
            ((("ask", 0, 1, (PART,), (KNOW,)),), (JJ,)), ((("ask", 0, 1, (), (KNOW,)),), (KNOW,)),
            ((("ask", 1, 0, (JJ,), ()),), (PART,)), ((("ask", 0, 1, (MM,), (MM,)),), (MM,)), (deep_script(4), ()),
            ((KNOW, ("ask", 0, 1, (MM,), (JJ, JJ, JJ))), (KNOW, MM)), ((JJ, ("ask", 0, 1, (), ()), JJ), ()),
        ]
        for named in (2, 3):
            for script, beside in rows:
                self.assertIs(scripts_alike(named, script, beside), True)
                self.assertIsNone(parting_company(named, script, beside))
                self.assertIs(scripts_alike(named, script + (JJ,), beside), False)

    def test_empty_scripts(self):
        for named in (1, 2, 3):
            self.assertIs(scripts_alike(named, (), ()), True)
            self.assertIs(scripts_alike(named, (KEEP,), ()), True)
            self.assertIs(scripts_alike(named, (), (MM,)), False)
            self.assertIsNone(parting_company(named, (), ()))
            self.assertIsNone(parting_company(named, (), (KEEP,)))

    def test_wrong_arguments(self):
        for named in (1, 2, 3):
            rows = [(named, InvalidNamed, wrong_nameds())] + [((), InvalidScript, wrong_scripts(named))] * 2
            refuse(self, scripts_alike, rows)
            refuse(self, parting_company, rows)


class Parting(unittest.TestCase):
    def test_picked_scripts(self):
        for named, many in ((1, 40), (2, 15), (3, 3)):
            for script, beside in picked_pairs(45 + named, named, many):
                self.assertEqual(parting_company(named, script, beside), slow_parting(named, script, beside))

    def test_each_deed_and_none(self):
        for named in (1, 2):
            for deed in every_deed(named)[::2]:
                self.assertEqual(parting_company(named, (deed,), ()), slow_parting(named, (deed,), ()))
                self.assertEqual(parting_company(named, (), (deed,)), slow_parting(named, (deed,), ()))

    def test_nobody_one_or_two_besides(self):
        self.assertEqual(parting_company(3, (("tie", 1, 2, "know"),), ()), (3, ()))
        self.assertEqual(parting_company(3, (("tie", 1, 2, "part"),), ()), (3, ((1, 2),)))
        self.assertEqual(parting_company(2, (("takes", 0, 1, (0, 0, 1, 1)),), ()), None)
        self.assertEqual(parting_company(2, (("takes", 0, 1, (0, 1, 1, 1)),), ()), (3, ((1, 2),)))
        self.assertEqual(parting_company(2, (("takes", 0, 1, (0, 0, 0, 1)),), ()), (3, ((0, 2),)))
        self.assertEqual(parting_company(1, (("pairs", 0, (0, 1, 0, 1, 1, 1)),), ()), (3, ((0, 1),)))
        self.assertEqual(parting_company(1, (("pairs", 0, (0, 0, 0, 1, 1, 0)),), ()), (3, ((0, 1), (0, 2), (1, 2))))

    def test_fewer_ties_come_ahead_of_pythons_order(self):
        # In Python's order the view ((0, 1), (0, 2)) stands ahead of ((1, 2),).
        self.assertEqual(parting_company(1, (("pairs", 0, (0, 0, 1, 0, 1, 1)),), ()), (3, ((1, 2),)))


class Classes(unittest.TestCase):
    def test_picked_lots(self):
        picker = Picker(48)
        for named, many in ((1, 40), (2, 12), (3, 1)):
            for _ in range(many):
                some = [pick_script(picker, named, picker.below(3), 1) for _ in range(3)] + [(), (KEEP,)]
                scripts = tuple(picker.one_of(some) for _ in range(1 + picker.below(6)))
                tables = [slow_table(named, script) for script in scripts]
                classes = {tuple(at for at, other in enumerate(tables) if other == table) for table in tables}
                self.assertEqual(alike_classes(named, scripts), sorted(classes))

    def test_one_script_and_six(self):
        self.assertEqual(alike_classes(1, ((),)), [(0,)])
        self.assertEqual(alike_classes(3, ((JJ,),)), [(0,)])
        self.assertEqual(alike_classes(2, ((),) * 6), [(0, 1, 2, 3, 4, 5)])
        six = ((JJ,), (KNOW,), (), (PART,), (JJ, JJ), (JJ, KNOW))
        self.assertEqual(alike_classes(2, six), [(0,), (1, 5), (2, 4), (3,)])

    def test_the_list_is_new(self):
        alike_classes(1, ((),)).clear()
        self.assertEqual(alike_classes(1, ((),)), [(0,)])

    def test_wrong_arguments(self):
        for named in (1, 2, 3):
            refuse(self, alike_classes, [
                (named, InvalidNamed, wrong_nameds()), (((), ()), InvalidScripts, wrong_lots(named)),
            ])


if __name__ == "__main__":
    unittest.main()
