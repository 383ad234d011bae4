"""Points 22 and 64: ways that lead several companies to others, all at once."""

import unittest
from itertools import product

from tests.helpers import ANYTHING, Picker, pick_company, pick_stock, put_first, refuse, slow_done, wrong_companies, wrong_goals
from tests.helpers import wrong_lots, wrong_nameds
from twobesides.companytexts import read_company, read_script
from twobesides.errors import InvalidNamed, InvalidPairs, InvalidStock, TooMany
from twobesides.jointways import joint_way

TURN, KNOW, PART = ((("tie", 0, 1, word),) for word in ("turn", "know", "part"))
# By each company alone come far fewer.
THOUSAND = [
    (3, ("5:01020304122334", "4:0203121323"), ("g101100u01g020011", "g101100g121100", "g101100u02", "g101100?20[p0100100p2011110/p1101100]")),
    (2, ("4:0102", "2:", "4:0103121323"), ("u01g101010", "u01p0101010", "u01g010110p1101110")),
]
ONE_MORE = [
    (2, ("4:021213", "5:01020413142334", "4:01021223"), ("p1110000g010110g100011", "p1110000g101001", "p1110000g101001g011100")),
    (3, ("6:05122534", "4:02031223", "3:02"), ("p0100010p0100011p0010101", "p0100010u10", "p0100010u20u21")),
]


def slow_ways(companies, stock, most=400):
    """The least way to each tuple of companies; None where there are too many."""
    ways = {companies: ()}
    found = [companies]
    for one in found:
        for index, script in enumerate(stock):
            behind = tuple(slow_done(company, script) for company in one)
            if behind not in ways:
                ways[behind] = ways[one] + (index,)
                found.append(behind)
        if len(found) > most:
            return None
    return ways


def picked(seed, many):
    picker = Picker(seed)
    for named in (1, 2, 3):
        found = 0
        while found < many:
            companies = tuple(pick_company(picker, named + picker.below(4)) for _ in range(1 + picker.below(6)))
            stock = pick_stock(picker, named, 1 + picker.below(3))
            ways = slow_ways(companies, stock, 150)
            if ways is not None:
                found += 1
                yield named, companies, stock, ways


class JointWays(unittest.TestCase):
    def test_picked(self):
        picker = Picker(210)
        longest = 0
        for named, companies, stock, ways in picked(211, 25):
            for ends in [picker.one_of(list(ways)) for _ in range(4)] + [list(ways)[-1]]:
                self.assertEqual(joint_way(named, tuple(zip(companies, ends)), stock), ways[ends])
                longest = max(longest, len(ways[ends]))
            others = tuple(pick_company(picker, company[0]) for company in companies)
            self.assertEqual(joint_way(named, tuple(zip(companies, others)), stock), ways.get(others))
        self.assertGreater(longest, 5)

    def test_short_ways_one_by_one(self):
        for named, companies, stock, ways in picked(212, 8):
            short = [way for many in range(4) for way in product(range(len(stock)), repeat=many)]
            for ends in list(ways)[:12]:
                told = put_first([way for way in short if self.ends_of(companies, stock, way) == ends])
                if told is not None:
                    self.assertEqual(joint_way(named, tuple(zip(companies, ends)), stock), told)

    def ends_of(self, companies, stock, way):
        for index in way:
            companies = tuple(slow_done(company, stock[index]) for company in companies)
        return companies

    def test_each_one_alone_but_not_all_at_once(self):
        ends = (2, ()), (2, ((0, 1),))
        self.assertEqual(joint_way(2, ((ends[0], ends[1]),), (TURN,)), (0,))
        self.assertEqual(joint_way(2, ((ends[0], ends[0]),), (TURN,)), ())
        self.assertIsNone(joint_way(2, ((ends[0], ends[1]), (ends[0], ends[0])), (TURN,)))
        self.assertIsNone(joint_way(2, ((ends[0], ends[1]), (ends[1], ends[1])), (TURN, TURN)))
        self.assertEqual(joint_way(2, ((ends[0], ends[1]), (ends[1], ends[1])), (TURN, PART, KNOW)), (2,))
        self.assertEqual(joint_way(2, ((ends[0], ends[1]), (ends[1], ends[1])), (TURN, PART)), (1, 0))

    def test_one_pair_and_six(self):
        for named in (1, 2, 3):
            company = (9, ((0, 8),))
            self.assertEqual(joint_way(named, ((company, company),), ((),)), ())
            self.assertEqual(joint_way(named, ((company, company),) * 6, ((),) * 6), ())
            self.assertIsNone(joint_way(named, ((company, company),) * 5 + ((company, (9, ())),), ((),) * 6))
            for pairs in ((), ((company, company),) * 7):
                self.assertRaises(InvalidPairs, joint_way, named, pairs, ((),))

    def test_companies_of_unlike_sizes(self):
        first = (("takes", 0, 1, (0, 1, 0, 1)),)
        pairs = (((2, ()), (2, ((0, 1),))), ((3, ((1, 2),)), (3, ((0, 1), (0, 2), (1, 2)))), ((4, ()), (4, ((0, 1),))))
        self.assertEqual(joint_way(2, pairs, (first, TURN)), (0, 1))
        self.assertEqual(joint_way(2, pairs, (TURN, first)), (0, 1))
        self.assertEqual(joint_way(2, pairs[:1], (first, TURN)), (1,))

    def test_wrong_arguments(self):
        for named in (1, 2, 3):
            one = (named + 1, ())
            wrong = [((one, goal),) for goal in wrong_goals(named, named + 1)] + [((company, one),) for company in wrong_companies(named)]
            wrong += [((one, one), (one, goal)) for goal in wrong_goals(named, named + 1)]
            wrong += [(), ((one, one),) * 7, [(one, one)], ([one, one],), (one, one), ((one, one, one),), ((one,),), ((one, one), one)]
            wrong += [((one, one), value) for value in ANYTHING]
            refuse(self, joint_way, [
                (named, InvalidNamed, wrong_nameds()), (((one, one),), InvalidPairs, ANYTHING + wrong),
                (((), ()), InvalidStock, wrong_lots(named)),
            ])


class Limits(unittest.TestCase):
    def told(self, rows):
        for named, companies, texts in rows:
            stock = tuple(read_script(named, text) for text in texts)
            yield named, tuple(read_company(named, company) for company in companies), stock

    def test_a_thousand_tuples(self):
        for named, companies, stock in self.told(THOUSAND):
            ways = slow_ways(companies, stock, 1001)
            self.assertEqual(len(ways), 1000)
            last = list(ways)[-1]
            self.assertEqual(joint_way(named, tuple(zip(companies, last)), stock), ways[last])

    def test_one_more(self):
        for named, companies, stock in self.told(ONE_MORE):
            pairs = tuple(zip(companies, companies))
            with self.assertRaises(TooMany) as caught:
                joint_way(named, pairs, stock)
            self.assertEqual(caught.exception.limit, 1000)
            self.assertEqual(len(slow_ways(companies, stock, 1002)), 1001)
            self.assertRaises(InvalidStock, joint_way, named, pairs, stock + (None,))


if __name__ == "__main__":
    unittest.main()
