"""Points 14 and 53: the tables of all ways of a lot, and least ways."""

import unittest
from itertools import product

from tests.helpers import Picker, every_deed, pick_script, refuse, slow_table, wrong_lots, wrong_nameds, wrong_scripts
from twobesides.closedrows import count_tables, least_way
from twobesides.companytexts import read_script
from twobesides.errors import InvalidNamed, InvalidScript, InvalidScripts, TooMany

JJ, KNOW, PART = (("tie", 0, 1, word) for word in ("turn", "know", "part"))
KEEP = ("pairs", 0, (0, 0, 0, 1, 1, 1))
FIVE_HUNDRED = ("p1110000s10", "?10[g100100u10/]", "g010101?01[/p1011011p1011001]", "?01[g011100/p0010000]")
ONE_MORE = ("p1101110", "?01[p1011111u01/u10g010100]?10[p0100011/u10u10]", "?10[g101001p0101101/g101010]k01", "?01[/k10s01]")


def read_lot(texts):
    return tuple(read_script(2, text) for text in texts)


def slow_ways(named, scripts, longest):
    """The least way to each table, by all ways with up to so many indices; None where they do not suffice."""
    tables = [slow_table(named, script) for script in scripts]
    ways = {}
    for many in range(longest + 1):
        found = len(ways)
        for way in product(range(len(scripts)), repeat=many):
            table = list(range(len(tables[0])))
            for index in way:
                table = [tables[index][number] for number in table]
            ways.setdefault(tuple(table), way)
        if len(ways) == found:
            return ways
    return None


def picked_lots():
    picker = Picker(52)
    for named, many in ((1, 60), (2, 40)):
        for _ in range(many):
            lot = tuple(pick_script(picker, named, picker.below(3), 1) for _ in range(1 + picker.below(3)))
            ways = slow_ways(named, lot, 7)
            if ways is not None:
                yield named, lot, ways


class ClosedRows(unittest.TestCase):
    def test_picked_lots(self):
        sizes = []
        for named, lot, ways in picked_lots():
            self.assertEqual(count_tables(named, lot), len(ways))
            sizes.append(len(ways))
        self.assertGreater(len(sizes), 60)
        self.assertGreater(max(sizes), 12)

    def test_least_ways(self):
        picker = Picker(53)
        for named, lot, ways in picked_lots():
            for way in sorted(ways.values())[:12]:
                script = sum((lot[index] for index in way), ())
                self.assertEqual(least_way(named, lot, script), way)
            other = pick_script(picker, named, 2, 1)
            self.assertEqual(least_way(named, lot, other), ways.get(slow_table(named, other)))

    def test_least_way_has_fewest_indices_then_is_first(self):
        self.assertEqual(least_way(2, ((JJ,), (PART,), (JJ, PART), (KNOW,)), (KNOW,)), (3,))
        self.assertEqual(least_way(2, ((JJ,), (PART,), (KNOW,), (KNOW,)), (KNOW,)), (2,))
        self.assertEqual(least_way(2, ((PART,), (JJ,)), (KNOW,)), (0, 1))
        self.assertEqual(least_way(2, ((PART,), (JJ,)), (PART, PART)), (0,))
        self.assertEqual(least_way(2, ((KEEP,), (JJ,)), (KEEP, KEEP)), ())
        self.assertIsNone(least_way(2, ((PART,), (KEEP,)), (KNOW,)))

    def test_a_lot_of_one_script(self):
        for named in (1, 2):
            self.assertEqual(count_tables(named, ((),)), 1)
            self.assertEqual(least_way(named, ((),), ()), ())
            self.assertEqual(least_way(named, ((KEEP,),), ()), ())
            for deed in every_deed(named)[::5]:
                table = slow_table(named, (deed,))
                seen = [tuple(range(len(table)))]
                while seen[-1] not in seen[:-1]:
                    seen.append(tuple(table[number] for number in seen[-1]))
                self.assertEqual(count_tables(named, ((deed,),)), len(seen) - 1)

    def test_a_lot_of_six(self):
        self.assertEqual(count_tables(2, ((JJ,),) * 6), 2)
        self.assertEqual(least_way(2, ((),) * 5 + ((JJ,),), (JJ,)), (5,))

    def test_ways_longer_than_scripts_are_let(self):
        circle = (("takes", 0, 1, (0, 1, 1, 0)), ("takes", 1, 0, (0, 1, 1, 0)))
        self.assertEqual(count_tables(2, (circle * 5, (JJ,))), 6)
        self.assertEqual(least_way(2, (circle * 5,), circle), (0, 0))

    def test_five_hundred_tables_and_one_more(self):
        lot = read_lot(FIVE_HUNDRED)
        self.assertEqual(count_tables(2, lot), 500)
        self.assertEqual(least_way(2, lot, ()), ())
        self.assertIsNone(least_way(2, lot, (JJ,)))
        more = read_lot(ONE_MORE)
        for function, values in ((count_tables, (2, more)), (least_way, (2, more, ())), (least_way, (2, more, more[0]))):
            with self.assertRaises(TooMany) as caught:
                function(*values)
            self.assertEqual(caught.exception.limit, 500)

    def test_too_many_is_raised_at_last(self):
        for wrong in wrong_scripts(2):
            with self.assertRaises(InvalidScript):
                least_way(2, read_lot(ONE_MORE), wrong)

    def test_three_named_ones_are_not_let(self):
        for values in ((3, ((),)), (3, ())):
            self.assertRaises(InvalidNamed, count_tables, *values)
            self.assertRaises(InvalidNamed, least_way, *values, ())

    def test_wrong_arguments(self):
        for named in (1, 2):
            rows = [(named, InvalidNamed, wrong_nameds() + [3]), (((), (KEEP,)), InvalidScripts, wrong_lots(named))]
            refuse(self, count_tables, rows)
            refuse(self, least_way, rows + [((), InvalidScript, wrong_scripts(named))])


if __name__ == "__main__":
    unittest.main()
