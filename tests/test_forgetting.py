"""Points 24 and 66: views that last, and ways that make all views one."""

import unittest
from itertools import combinations

from tests.helpers import Picker, every_company, pick_company, pick_script, pick_stock, pick_undone, refuse, slow_done, slow_table
from tests.helpers import wrong_lots, wrong_nameds
from twobesides.companytexts import read_script
from twobesides.errors import InvalidNamed, InvalidStock, TooMany
from twobesides.forgetting import forgetting_way, lasting_pair

FORGET = (("takes", 0, 1, (0, 0, 0, 0)), ("tie", 0, 1, "part"), ("pairs", 0, (0, 0, 0, 0, 0, 0)))
FT = ((("pairs", 0, (1, 1, 1, 0, 0, 0)),),)
THOUSAND_AHEAD = [
    ("p0001110", "u10p0101010p0010101", "p0001111k10", "g101100", "g101100p1011000", "p1000111"),
    ("?10[g011100/s01p1110101]", "p1010101u01", "p1001110p0010101u10", "?10[k01/s01]s01"),
]
ONE_MORE_AHEAD = [
    ("s10", "p1100110?01[p1001010p1001010/g101100]", "p0000111g100110", "g101001u01p1110001", "u10u01", "g011001u10"),
    ("s01?01[/]", "g010011p0110001u10", "?10[p1100101p1000101/]", "p1011000"),
]


def first_lots(named, stock, many):
    """The pairs of lots and their least ways, lesser ways first; all of them, or at least one more than so many."""
    tables = [slow_table(named, script) for script in stock]
    ways = {frozenset(range(len(tables[0]))): ()}
    found = list(ways)
    for lot in found:
        for index, table in enumerate(tables):
            behind = frozenset(table[number] for number in lot)
            if behind not in ways:
                ways[behind] = ways[lot] + (index,)
                found.append(behind)
        if len(found) > many:
            break
    return list(ways.items())


def slow_lots(named, stock, most):
    """All pairs of lots and their least ways, lesser ways first; None where there are more."""
    lots = first_lots(named, stock, most)
    return lots if len(lots) <= most else None


def slow_lasting(named, stock):
    """The least pair of numbers of which no way makes one, by trying out: pairs that come of such ones do not last either."""
    tables = [slow_table(named, script) for script in stock]
    for pair in combinations(range(len(tables[0])), 2):
        met = {pair: True}
        left = [pair]
        while left and left[-1][0] != left[-1][1]:
            one, other = left.pop(0)
            more = [(table[one], table[other]) for table in tables if (table[one], table[other]) not in met]
            met.update({behind: True for behind in more})
            left += sorted(set(more), key=lambda behind: behind[0] == behind[1])
        if not left:
            return pair
    return None


def slow_forgetting(named, stock):
    for lot, way in slow_lots(named, stock, 2000):
        if len(lot) == 1:
            return way
    return None


def picked_stocks(seed, named, many):
    """Stocks some of which make all views one: some of their scripts forget a lot."""
    picker = Picker(seed)
    parts = [(deed,) for deed in FORGET] if named > 1 else [(("pairs", 0, picker.answers(6)),) for _ in range(6)]
    for _ in range(many):
        stock = pick_stock(picker, named, 1 + picker.below(3))
        stock += tuple(picker.one_of(parts) + pick_undone(picker, named, picker.below(2)) for _ in range(picker.below(4)))
        yield stock


class Lasting(unittest.TestCase):
    def test_picked(self):
        told = []
        for named, many in ((1, 60), (2, 40)):
            for stock in picked_stocks(250 + named, named, many):
                told.append(slow_lasting(named, stock))
                self.assertEqual(lasting_pair(named, stock), told[-1])
        self.assertGreater(len(set(told)), 3)
        self.assertIn(None, told)

    def test_one_script_and_six(self):
        for named in (1, 2):
            self.assertEqual(lasting_pair(named, ((),)), (0, 1))
            self.assertEqual(lasting_pair(named, ((),) * 6), (0, 1))
        self.assertEqual(lasting_pair(1, FT), (0, 1))
        self.assertIsNone(lasting_pair(2, (FORGET,)))
        self.assertIsNone(lasting_pair(2, ((),) * 5 + (FORGET,)))

    def test_three_named_ones_are_not_let(self):
        for stock in (((),), ()):
            self.assertRaises(InvalidNamed, lasting_pair, 3, stock)
            self.assertRaises(InvalidNamed, forgetting_way, 3, stock)

    def test_wrong_arguments(self):
        for named in (1, 2):
            for function in (lasting_pair, forgetting_way):
                refuse(self, function, [(named, InvalidNamed, wrong_nameds() + [3]), (((), ()), InvalidStock, wrong_lots(named))])


class Forgetting(unittest.TestCase):
    def test_picked(self):
        longest, found = 0, 0
        for named, many in ((1, 60), (2, 70)):
            for stock in picked_stocks(252 + named, named, many):
                if slow_lots(named, stock, 900) is None:
                    continue
                way = forgetting_way(named, stock)
                self.assertEqual(way, slow_forgetting(named, stock))
                found += way is not None
                longest = max(longest, len(way or ()))
        self.assertGreater(found, 4)
        self.assertGreater(longest, 2)

    def test_least_ways(self):
        keep = ("pairs", 0, (0, 0, 0, 1, 1, 1))
        self.assertEqual(forgetting_way(2, (FORGET,)), (0,))
        self.assertEqual(forgetting_way(2, ((keep,), FORGET, FORGET)), (1,))
        self.assertEqual(forgetting_way(2, tuple((deed,) for deed in FORGET)), (0, 1, 2))
        self.assertEqual(forgetting_way(2, tuple((deed,) for deed in FORGET[::-1])), (0, 1, 2))
        for some in (FORGET[1:], FORGET[:2], FORGET[::2]):
            self.assertIsNone(forgetting_way(2, tuple((deed,) for deed in some)))
            self.assertIsNotNone(lasting_pair(2, tuple((deed,) for deed in some)))

    def test_one_named_one_forgets_nobody(self):
        # No deed of one named one alone changes whom this one knows.
        for stock in picked_stocks(256, 1, 20):
            self.assertIsNone(forgetting_way(1, stock))
            self.assertIsNotNone(lasting_pair(1, stock))

    def test_all_companies_become_one(self):
        picker = Picker(257)
        for stock in picked_stocks(258, 2, 30):
            if lasting_pair(2, stock) is not None:
                continue
            way = forgetting_way(2, stock)
            for people in (2, 3, 4, 5, 9):
                companies = every_company(people) if people < 5 else [pick_company(picker, people) for _ in range(30)]
                for index in way:
                    companies = [slow_done(company, stock[index]) for company in companies]
                self.assertEqual(len(set(companies)), 1)


class Limits(unittest.TestCase):
    def told(self, texts):
        return tuple(read_script(2, text) for text in texts)

    def test_a_thousand_lots_ahead(self):
        for texts in THOUSAND_AHEAD:
            stock = self.told(texts)
            lots = first_lots(2, stock, 1002)
            firsts = [index for index, (lot, _) in enumerate(lots) if len(lot) == 1]
            self.assertEqual(firsts[0], 1000)
            self.assertEqual(forgetting_way(2, stock), lots[1000][1])

    def test_one_more_ahead(self):
        for texts in ONE_MORE_AHEAD:
            stock = self.told(texts)
            lots = first_lots(2, stock, 1002)
            self.assertEqual([index for index, (lot, _) in enumerate(lots) if len(lot) == 1][0], 1001)
            with self.assertRaises(TooMany) as caught:
                forgetting_way(2, stock)
            self.assertEqual(caught.exception.limit, 1000)
            self.assertIsNone(lasting_pair(2, stock))

    def test_no_way_and_ever_so_many_lots(self):
        # Where no way makes all views one it is told that there is none, however many lots there are.
        picker = Picker(259)
        found = 0
        while found < 3:
            stock = tuple(pick_undone(picker, 2, 2) for _ in range(3)) + (pick_script(picker, 2, 1, 0), pick_script(picker, 2, 1, 0))
            if slow_lots(2, stock, 1001) is None and slow_lasting(2, stock) is not None:
                found += 1
                self.assertIsNone(forgetting_way(2, stock))


if __name__ == "__main__":
    unittest.main()
