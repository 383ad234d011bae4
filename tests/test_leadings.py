"""Points 22 and 63: which companies come of one by scripts of a stock, and by which ways."""

import unittest
from itertools import permutations, product

from tests.helpers import Picker, pick_company, pick_stock, put_first, refuse, slow_arrows, slow_done, slow_led, slow_part
from tests.helpers import wrong_companies, wrong_goals, wrong_lots, wrong_nameds, wrong_numbers
from twobesides.companytexts import read_company, read_script
from twobesides.errors import InvalidCompany, InvalidGoal, InvalidNamed, InvalidNumber, InvalidStock, TooMany
from twobesides.leadings import companies_led, count_ways, way_but_names

TURN, KNOW = (("tie", 0, 1, "turn"),), (("tie", 0, 1, "know"),)
THOUSAND = [
    (3, "5:0104142324", ("g210110u21u20", "g120100", "p0101110", "?10[/p2101011p0011100]")),
    (2, "7:0204050613153545", ("u10?01[/k10s10]g100101", "u10g011001p1010101", "u10g010110g101100", "u10?10[/g011100k10]p1110011")),
    (3, "9:01020305070813171823272834354546486778", ("g200101p0101101", "?10[/p0101000]", "g021100u10", "p1101010u01p1000111")),
]
ONE_MORE = [
    (2, "7:010204061415162425263536", ("g101110p1010101u01", "g101110p1011100p0000111", "g101110g011001", "g101110g010011")),
    (3, "8:0103050614162526343536475657", ("g020100p0111000g101001", "g020100u20", "g020100g011001")),
]


def picked(seed, many, most=60):
    """Triples of a number of named ones, a company, and a stock, where few companies come."""
    picker = Picker(seed)
    for named in (1, 2, 3):
        found = 0
        while found < many:
            company = pick_company(picker, named + picker.below(min(5, 10 - named)))
            stock = pick_stock(picker, named, 1 + picker.below(3))
            try:
                led = companies_led(named, company, stock)
            except TooMany:
                continue
            if len(led) <= most:
                found += 1
                yield named, company, stock


def slow_orders_of(named, company):
    return {slow_part(named, company, order) for order in permutations(range(named, company[0]))}


class Led(unittest.TestCase):
    def test_picked(self):
        sizes = set()
        for named, company, stock in picked(200, 40):
            led = companies_led(named, company, stock)
            self.assertEqual(led, tuple(slow_led(company, stock)))
            sizes.add(len(led))
        self.assertGreater(len(sizes), 10)

    def test_one_script_and_six(self):
        for named in (1, 2, 3):
            for company in ((named, ()), (9, ((0, 8), (7, 8)))):
                for stock in (((),), ((),) * 6):
                    self.assertEqual(companies_led(named, company, stock), (company,))
        six = (TURN, KNOW, (), TURN + TURN, (("takes", 0, 1, (0, 1, 0, 1)),), (("takes", 1, 0, (0, 1, 1, 0)),))
        company = (4, ((0, 2), (1, 3)))
        self.assertEqual(companies_led(2, company, six), tuple(slow_led(company, six)))

    def test_in_the_order_in_which_they_are_met(self):
        self.assertEqual(companies_led(2, (2, ()), (TURN,)), ((2, ()), (2, ((0, 1),))))
        self.assertEqual(companies_led(2, (2, ((0, 1),)), (KNOW, TURN)), ((2, ((0, 1),)), (2, ())))
        # Both scripts lead to new ones: that by the first one is met first, whatever its ties.
        flip, know = (("pairs", 0, (1, 1, 1, 0, 0, 0)),), (("tie", 0, 1, "know"),)
        self.assertEqual(companies_led(2, (3, ()), (flip, know))[1:3], ((3, ((1, 2),)), (3, ((0, 1),))))
        self.assertEqual(companies_led(2, (3, ()), (know, flip))[1:3], ((3, ((0, 1),)), (3, ((1, 2),))))

    def test_wrong_arguments(self):
        for named in (1, 2, 3):
            refuse(self, companies_led, [
                (named, InvalidNamed, wrong_nameds()), ((named, ()), InvalidCompany, wrong_companies(named)),
                (((), ()), InvalidStock, wrong_lots(named)),
            ])


class CountWays(unittest.TestCase):
    def test_picked_short_ways(self):
        picker = Picker(201)
        for named, company, stock in picked(202, 12):
            goals = slow_led(company, stock)
            for many in range(5):
                ends = {}
                for way in product(range(len(stock)), repeat=many):
                    end = company
                    for index in way:
                        end = slow_done(end, stock[index])
                    ends[end] = ends.get(end, 0) + 1
                for goal in [picker.one_of(goals) for _ in range(3)] + [pick_company(picker, company[0])]:
                    self.assertEqual(count_ways(named, company, goal, stock, many), ends.get(goal, 0))

    def test_sixty_indices(self):
        for named, company, stock in picked(203, 6):
            arrows = slow_arrows(slow_led(company, stock), stock)
            counts = {company: 1}
            for _ in range(60):
                more = {}
                for one, count in counts.items():
                    for behind in arrows[one]:
                        more[behind] = more.get(behind, 0) + count
                counts = more
            for goal in arrows:
                self.assertEqual(count_ways(named, company, goal, stock, 60), counts.get(goal, 0))
            self.assertEqual(sum(counts.values()), len(stock) ** 60)

    def test_no_indices(self):
        company, other = (4, ((0, 2), (1, 3))), (4, ((0, 1), (0, 2), (1, 3)))
        self.assertEqual(count_ways(2, company, company, (TURN, KNOW), 0), 1)
        self.assertEqual(count_ways(2, company, other, (TURN, KNOW), 0), 0)
        self.assertEqual(count_ways(2, company, other, (TURN, KNOW), 1), 2)
        self.assertEqual(count_ways(2, company, (4, ()), (TURN, KNOW), 7), 0)

    def test_like_scripts_are_counted_each(self):
        self.assertEqual(count_ways(1, (1, ()), (1, ()), ((),) * 6, 60), 6 ** 60)
        self.assertEqual(count_ways(1, (3, ()), (3, ()), ((),) * 3, 2), 9)

    def test_wrong_arguments(self):
        for named in (1, 2, 3):
            refuse(self, count_ways, [
                (named, InvalidNamed, wrong_nameds()), ((named + 1, ()), InvalidCompany, wrong_companies(named)),
                ((named + 1, ()), InvalidGoal, wrong_goals(named, named + 1)), (((), ()), InvalidStock, wrong_lots(named)),
                (60, InvalidNumber, wrong_numbers(60)),
            ])


class WayButNames(unittest.TestCase):
    def slow_way(self, named, company, goal, stock):
        goals = slow_orders_of(named, goal)
        ways = {company: ()}
        for one in slow_led(company, stock):
            for index, script in enumerate(stock):
                ways.setdefault(slow_done(one, script), ways[one] + (index,))
        return put_first([way for one, way in ways.items() if one in goals])

    def test_picked(self):
        picker = Picker(204)
        told = []
        for named, company, stock in picked(205, 25):
            led = slow_led(company, stock)
            for goal in [picker.one_of(led) for _ in range(3)] + [pick_company(picker, company[0])]:
                order = picker.shuffled(range(named, company[0]))
                goal = slow_part(named, goal, order)
                told.append(self.slow_way(named, company, goal, stock))
                self.assertEqual(way_but_names(named, company, goal, stock), told[-1])
        self.assertGreater(told.count(None), 20)
        self.assertGreater(max(len(way) for way in told if way is not None), 4)

    def test_short_ways_one_by_one(self):
        picker = Picker(206)
        for named, company, stock in picked(207, 8, 12):
            goal = slow_part(named, picker.one_of(slow_led(company, stock)), picker.shuffled(range(named, company[0])))
            ways = [way for many in range(5) for way in product(range(len(stock)), repeat=many)]
            least = put_first([way for way in ways if self.end_of(company, stock, way) in slow_orders_of(named, goal)])
            if least is not None:
                self.assertEqual(way_but_names(named, company, goal, stock), least)

    def end_of(self, company, stock, way):
        for index in way:
            company = slow_done(company, stock[index])
        return company

    def test_people_besides_are_exchanged_and_named_ones_not(self):
        company = (4, ((0, 2), (0, 3), (1, 2)))
        self.assertEqual(way_but_names(2, company, (4, ((0, 2), (0, 3), (1, 3))), (KNOW,)), ())
        self.assertIsNone(way_but_names(2, company, (4, ((0, 2), (1, 2), (1, 3))), (KNOW,)))
        self.assertEqual(way_but_names(2, company, (4, ((0, 1), (0, 2), (0, 3), (1, 3))), ((), KNOW)), (1,))
        self.assertEqual(way_but_names(2, (2, ()), (2, ()), (KNOW,)), ())

    def test_five_besides(self):
        for named in (1, 2, 3):
            people = named + 5
            one, other = (people, ((0, people - 1),)), (people, ((0, named),))
            self.assertEqual(way_but_names(named, one, other, ((),)), ())
            self.assertIsNone(way_but_names(named, one, (people, ()), ((),)))

    def test_wrong_arguments(self):
        for named in (1, 2, 3):
            refuse(self, way_but_names, [
                (named, InvalidNamed, wrong_nameds()), ((named + 1, ()), InvalidCompany, wrong_companies(named)),
                ((named + 1, ()), InvalidGoal, wrong_goals(named, named + 1)), (((), ()), InvalidStock, wrong_lots(named)),
            ])


class Limits(unittest.TestCase):
    def told(self, rows):
        for named, company, texts in rows:
            yield named, read_company(named, company), tuple(read_script(named, text) for text in texts)

    def test_a_thousand_companies(self):
        for named, company, stock in self.told(THOUSAND):
            led = companies_led(named, company, stock)
            self.assertEqual(len(led), 1000)
            self.assertEqual(len(set(led)), 1000)
            self.assertEqual(count_ways(named, company, led[-1], stock, 0), 0)
            if company[0] <= named + 5:
                self.assertLessEqual(len(way_but_names(named, company, led[-1], stock)), 999)

    def test_one_more(self):
        for named, company, stock in self.told(ONE_MORE):
            first = companies_led(named, company, ((),))[0]
            self.assertEqual(len(slow_led(company, stock)), 1001)
            for function, values in (
                (companies_led, (stock,)), (count_ways, (first, stock, 0)), (count_ways, ((company[0], ()), stock, 1)),
                (way_but_names, (first, stock)), (way_but_names, ((company[0], ()), stock)),
            ):
                with self.assertRaises(TooMany) as caught:
                    function(named, company, *values)
                self.assertEqual(caught.exception.limit, 1000)

    def test_six_besides(self):
        texts = ("g010110g100110g100011", "g100110u10", "p0001101g011011", "u01g011001", "p0000110")
        stock = tuple(read_script(2, text) for text in texts)
        company = read_company(2, "8:0406131516172324252635465657")
        for function, values, limit in (
            (companies_led, (stock,), 1000), (count_ways, (company, stock, 0), 1000), (way_but_names, (company, stock), 5),
        ):
            with self.assertRaises(TooMany) as caught:
                function(2, company, *values)
            self.assertEqual(caught.exception.limit, limit)
        for named in (1, 2, 3):
            people = named + 6
            self.assertRaises(TooMany, way_but_names, named, (people, ()), (people, ()), ((),))
            self.assertEqual(companies_led(named, (people, ()), ((),)), ((people, ()),))

    def test_too_many_is_raised_at_last(self):
        for named, company, stock in self.told(ONE_MORE):
            for wrong in (None, 61, -1, True, "0"):
                self.assertRaises(InvalidNumber, count_ways, named, company, company, stock, wrong)
            self.assertRaises(InvalidGoal, count_ways, named, company, (1, ()), stock, 0)
            self.assertRaises(InvalidGoal, way_but_names, named, company, None, stock)
            self.assertRaises(InvalidStock, way_but_names, named, company, company, stock * 6)
        self.assertRaises(InvalidStock, way_but_names, 1, (9, ()), (9, ()), ())
        self.assertRaises(InvalidGoal, way_but_names, 1, (9, ()), (8, ()), ())


if __name__ == "__main__":
    unittest.main()
