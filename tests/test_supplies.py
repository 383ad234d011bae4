"""Points 33, 34 and 77: supplies of deeds, rows of them that do facts, and twin parts."""

import unittest
from itertools import permutations, product

from tests.helpers import ANYTHING, Picker, pick_company, pick_deed, pick_script, put_first, refuse, slow_deed, slow_done, slow_part
from tests.helpers import wrong_companies, wrong_deeds, wrong_nameds, wrong_numbers
from twobesides.companytexts import read_company, read_script
from twobesides.errors import InvalidFacts, InvalidNamed, InvalidNumber, InvalidSupply, TooMany
from twobesides.supplies import are_facts, count_supply_rows, is_supply, supply_row, twin_parts

FLIP, FORGET = ("pairs", 0, (1, 1, 1, 0, 0, 0)), ("pairs", 0, (0, 0, 0, 0, 0, 0))
THOUSAND = [
    (3, "g021100p1000100g101001", ("5:122324", "9:0103050607141516242528374856")),
    (2, "g101110p1111011p0111000u10", ("6:01020313253435", "3:0102")),
    (3, "u10u12p0111101g021100", ("5:03122434", "7:020506121626343556", "8:030407131516232426343537465667", "6:0204051315253435")),
]
ONE_MORE = [
    (3, "p0110100p1111100p1111111k01", ("5:03121423", "8:02030414152334353745464757")),
    (3, "g200100p0100010p2000010", (
        "8:020507131416172324252634353646475667", "8:0304060713141623252734353637", "6:010513142325", "7:030405061213142324263445",
    )),
]
LONG = [
    (2, "p1110001g100110g010011p0101101", ("4:0323", "5:010304121434"), ("4:021323", "5:010204121424"), 31),
    (2, "s10p0011100p1101010g100011", ("7:01030405061216243546", "4:02031213"), ("7:030405061216242634364556", "4:0203121323"), 31),
    (2, "p0010110g010110p0011100", ("5:1213142434", "8:01020406071214172426273435363756"), ("5:02030423", "8:012427343537"), 46),
    (3, "p1010101s02p2010000s20", ("8:0205071315172436454756", "5:0104121314232434"), ("8:0102", "5:01030412"), 33),
]


def read_facts(named, ahead, behind):
    return tuple(zip(*[[read_company(named, text) for text in texts] for texts in (ahead, behind)]))


def pick_supply(picker, named, many):
    return tuple(pick_deed(picker, named) for _ in range(many))


def slow_reached(supply, facts, most=400):
    """The least row to each tuple of companies that comes of those ahead, or None if there are too many."""
    first = tuple(ahead for ahead, _ in facts)
    rows = {first: ()}
    found = [first]
    for one in found:
        for index, deed in enumerate(supply):
            behind = tuple(slow_deed(company, deed) for company in one)
            if behind not in rows:
                rows[behind] = rows[one] + (index,)
                found.append(behind)
        if len(found) > most:
            return None
    return rows


def picked(seed, many, most=400):
    """Tuples of a number of named ones, a supply, facts, and the rows to what comes; rows do half of the facts."""
    picker = Picker(seed)
    for named in (1, 2, 3):
        found = 0
        while found < many:
            supply = pick_supply(picker, named, 1 + picker.below(4))
            companies = [pick_company(picker, named + picker.below(min(4, 10 - named))) for _ in range(1 + picker.below(4))]
            rows = slow_reached(supply, [(company, company) for company in companies], most)
            if rows is None:
                continue
            found += 1
            behind = picker.one_of(list(rows)) if picker.below(2) else [pick_company(picker, one[0]) for one in companies]
            yield named, supply, tuple(zip(companies, behind)), rows


def wrong_supplies(named):
    """Values that are no supplies for so many named ones."""
    wrong = [(deed,) for deed in wrong_deeds(named)] + [(FLIP, deed) for deed in wrong_deeds(named)]
    wrong += [(), (FLIP,) * 7, [FLIP], FLIP, ((FLIP,),), (FLIP, (FLIP,))]
    if named > 1:
        wrong += [(("ask", 0, 1, (), ()),), (FLIP, ("ask", 0, 1, (FLIP,), (FLIP,)))]
    return ANYTHING + wrong


def wrong_facts(named):
    """Values that are no facts for so many named ones."""
    one, other = (named + 1, ()), (named + 2, ())
    wrong = [((one, value),) for value in wrong_companies(named)] + [((value, one),) for value in wrong_companies(named)]
    wrong += [((other, other), (value, value)) for value in wrong_companies(named)]
    wrong += [(), ((one, one),) * 5, ((one, other),), ((one, one), (other, one)), [(one, one)], ([one, one],), (one, one), one]
    return ANYTHING + wrong + [((one, one), one), ((one,),), ((one, one, one),), ((named, ()), (named, ()))]


class Forms(unittest.TestCase):
    def test_supplies(self):
        picker = Picker(400)
        for named in (1, 2, 3):
            for many in range(1, 7):
                self.assertIs(is_supply(named, pick_supply(picker, named, many)), True)
                self.assertIs(is_supply(named, (FLIP,) * many), True)
            self.assertIs(is_supply(named, ()), False)
            self.assertIs(is_supply(named, (FLIP,) * 7), False)
            for value in wrong_supplies(named):
                self.assertIs(is_supply(named, value), False, value)

    def test_facts(self):
        picker = Picker(401)
        for named in (1, 2, 3):
            for many in range(1, 5):
                sizes = [named + picker.below(10 - named) for _ in range(many)]
                facts = tuple((pick_company(picker, people), pick_company(picker, people)) for people in sizes)
                self.assertIs(are_facts(named, facts), True)
                self.assertIs(are_facts(named, facts * 5), False)
                for people in range(named, 10):
                    wrong = facts[:-1] + ((facts[-1][0], pick_company(picker, people)),)
                    self.assertIs(are_facts(named, wrong), people == sizes[-1])
            for value in wrong_facts(named):
                self.assertIs(are_facts(named, value), False, value)

    def test_named_ones(self):
        for value in wrong_nameds():
            self.assertRaises(InvalidNamed, is_supply, value, (FLIP,))
            self.assertRaises(InvalidNamed, are_facts, value, (((3, ()), (3, ())),))


class Rows(unittest.TestCase):
    def test_picked(self):
        found = 0
        for named, supply, facts, rows in picked(402, 60):
            row = rows.get(tuple(behind for _, behind in facts))
            self.assertEqual(supply_row(named, supply, facts), row)
            found += row is not None and len(row) > 1
        self.assertGreater(found, 25)

    def test_by_all_short_rows(self):
        for named, supply, facts, _ in picked(403, 12, 60):
            for many in range(4):
                told = []
                for row in product(range(len(supply)), repeat=many):
                    script = tuple(supply[index] for index in row)
                    if all(slow_done(ahead, script) == behind for ahead, behind in facts):
                        told.append(row)
                self.assertEqual(count_supply_rows(named, supply, facts, many), len(told))
                least = supply_row(named, supply, facts)
                if told != []:
                    self.assertEqual(put_first(told + [least]), least)
                elif least is not None:
                    self.assertNotEqual(len(least), many)

    def test_fewest_indices_and_then_the_order(self):
        turn, know = ("tie", 0, 1, "turn"), ("tie", 0, 1, "know")
        facts = (((2, ()), (2, ((0, 1),))),)
        self.assertEqual(supply_row(2, (turn, know), facts), (0,))
        self.assertEqual(supply_row(2, (FLIP, know, turn), facts), (1,))
        self.assertEqual(supply_row(2, (FLIP, FLIP), (((4, ()), (4, ())),)), ())
        self.assertIsNone(supply_row(2, (FLIP, FORGET), facts))
        self.assertEqual(count_supply_rows(2, (turn, turn), facts, 3), 8)

    def test_equal_deeds_and_six(self):
        company = (3, ((0, 1),))
        behind = slow_deed(company, FLIP)
        for named in (1, 2, 3):
            told = slow_deed((named + 2, ()), FLIP)
            self.assertEqual(supply_row(named, (FORGET,) * 5 + (FLIP,), (((named + 2, ()), told),)), (5,))
        self.assertEqual(count_supply_rows(1, (FLIP,) * 6, ((company, behind),), 3), 216)
        self.assertEqual(count_supply_rows(1, (FLIP,) * 6, ((company, behind),), 30), 0)
        self.assertEqual(count_supply_rows(1, (FLIP,) * 6, ((company, company),), 30), 6 ** 30)

    def test_one_fact_and_four(self):
        picker = Picker(404)
        for named in (1, 2, 3):
            script = pick_script(picker, named, 3, 0)
            companies = [pick_company(picker, named + many) for many in (0, 1, 3, 2)]
            for many in range(1, 5):
                facts = tuple((company, slow_done(company, script)) for company in companies[:many])
                row = supply_row(named, script, facts)
                self.assertLessEqual(len(row), 3)
                for ahead, behind in facts:
                    self.assertEqual(slow_done(ahead, tuple(script[index] for index in row)), behind)

    def test_thirty_indices(self):
        for named, supply, facts, rows in picked(405, 5, 60):
            counts = {tuple(ahead for ahead, _ in facts): 1}
            for many in range(31):
                told = counts.get(tuple(behind for _, behind in facts), 0)
                if many in (0, 1, 15, 29, 30):
                    self.assertEqual(count_supply_rows(named, supply, facts, many), told)
                more = {}
                for one, count in counts.items():
                    for deed in supply:
                        behind = tuple(slow_deed(company, deed) for company in one)
                        more[behind] = more.get(behind, 0) + count
                counts = more

    def test_many_at_the_limits(self):
        facts = (((3, ()), (3, ())),)
        for many in (0, 30):
            self.assertEqual(count_supply_rows(1, (FORGET,), facts, many), 1)
        for many in (-1, 31, True, 10 ** 30):
            self.assertRaises(InvalidNumber, count_supply_rows, 1, (FORGET,), facts, many)

    def test_rows_with_more_than_thirty_indices(self):
        for named, supply, ahead, behind, many in LONG:
            supply, facts = read_script(named, supply), read_facts(named, ahead, behind)
            row = supply_row(named, supply, facts)
            self.assertEqual(len(row), many)
            self.assertEqual(row, slow_reached(supply, facts, 1000)[tuple(company for _, company in facts)])
            for number in (0, 29, 30):
                self.assertEqual(count_supply_rows(named, supply, facts, number), 0)

    def test_a_thousand_tuples(self):
        for named, supply, ahead in THOUSAND:
            supply, facts = read_script(named, supply), read_facts(named, ahead, ahead)
            self.assertEqual(len(slow_reached(supply, facts, 1001)), 1000)
            self.assertEqual(supply_row(named, supply, facts), ())
            self.assertEqual(count_supply_rows(named, supply, facts, 0), 1)
            other = (((facts[0][0]), (facts[0][0][0], ())),) + facts[1:]
            self.assertIsNone(supply_row(named, supply, other))

    def test_one_more_whatever_is_asked(self):
        for named, supply, ahead in ONE_MORE:
            supply, facts = read_script(named, supply), read_facts(named, ahead, ahead)
            self.assertEqual(len(slow_reached(supply, facts, 1001)), 1001)
            one = ((facts[0][0], slow_deed(facts[0][0], supply[0])),)
            for told in (facts, one + facts[1:], facts[:-1] + ((facts[-1][0], (facts[-1][0][0], ())),)):
                for function, values in ((supply_row, ()), (count_supply_rows, (0,)), (count_supply_rows, (30,))):
                    with self.assertRaises(TooMany) as caught:
                        function(named, supply, told, *values)
                    self.assertEqual(caught.exception.limit, 1000)
            for many in (-1, 31):
                self.assertRaises(InvalidNumber, count_supply_rows, named, supply, facts, many)

    def test_far_too_many(self):
        supply = tuple(("takes", one, other, (0, 1, 1, 0)) for one, other in ((0, 1), (1, 2), (2, 0)))
        supply = supply + (("tie", 0, 1, "turn"), ("pairs", 0, (0, 0, 1, 1, 1, 0)), ("pairs", 1, (0, 1, 0, 1, 0, 1)))
        company = (9, ((0, 2), (0, 5), (1, 3), (1, 6), (2, 7), (3, 4), (5, 8)))
        facts = ((company, company), ((9, company[1][1:]), company)) * 2
        self.assertRaises(TooMany, supply_row, 3, supply, facts)
        self.assertRaises(TooMany, count_supply_rows, 3, supply, facts, 30)

    def test_wrong_arguments(self):
        for named in (1, 2, 3):
            good = (((named + 1, ()), (named + 1, ())),)
            rows = [
                (named, InvalidNamed, wrong_nameds()), ((FORGET,), InvalidSupply, wrong_supplies(named)),
                (good, InvalidFacts, wrong_facts(named)),
            ]
            refuse(self, supply_row, rows)
            refuse(self, count_supply_rows, rows + [(0, InvalidNumber, wrong_numbers(30))])
            refuse(self, twin_parts, rows[::2])


def slow_twin_parts(named, facts):
    """The first twin parts: all quadruples are looked at."""
    places = []
    for index, (ahead, behind) in enumerate(facts):
        for many in range(3):
            for besides in permutations(range(named, ahead[0]), many):
                places.append((index, besides, slow_part(named, ahead, besides), slow_part(named, behind, besides)))
    twins = [(one[0], one[1], other[0], other[1]) for one in places for other in places
             if len(one[1]) == len(other[1]) and one[2] == other[2] and one[3] != other[3]]
    return min(twins, default=None)


class TwinParts(unittest.TestCase):
    def test_picked(self):
        picker = Picker(406)
        told = []
        for named in (1, 2, 3):
            for _ in range(60):
                facts = []
                for _ in range(1 + picker.below(4)):
                    ahead = pick_company(picker, named + picker.below(5))
                    behind = slow_done(ahead, pick_script(Picker(7), named, 2, 0))
                    facts.append((ahead, behind if picker.below(4) else pick_company(picker, ahead[0])))
                told.append(twin_parts(named, tuple(facts)))
                self.assertEqual(told[-1], slow_twin_parts(named, tuple(facts)))
        kinds = {None if twins is None else (len(twins[1]), twins[0] == twins[2]) for twins in told}
        self.assertEqual(kinds, {None, (0, False), (1, True), (1, False), (2, True), (2, False)})

    def test_of_no_people_besides(self):
        self.assertEqual(twin_parts(2, (((2, ()), (2, ())), ((4, ()), (4, ((0, 1),))))), (0, (), 1, ()))
        self.assertEqual(twin_parts(1, (((1, ()), (1, ())),) * 4), None)
        self.assertEqual(twin_parts(3, (((3, ()), (3, ())),) * 3 + (((3, ()), (3, ((1, 2),))),)), (0, (), 3, ()))

    def test_of_one_and_of_two(self):
        self.assertEqual(twin_parts(1, (((3, ()), (3, ((0, 1),))),)), (0, (1,), 0, (2,)))
        self.assertEqual(twin_parts(1, (((4, ()), (4, ((2, 3),))),)), (0, (1, 2), 0, (2, 3)))
        # In another order: twice the same two people.
        self.assertEqual(twin_parts(1, (((3, ()), (3, ((1, 2),))),)), None)
        self.assertEqual(twin_parts(1, (((3, ((1, 2),)), (3, ((0, 2), (1, 2)))),)), (0, (1,), 0, (2,)))
        self.assertEqual(twin_parts(2, (((4, ((0, 2), (1, 3))), (4, ((0, 2), (1, 3)))), ((4, ((0, 3), (1, 2))), (4, ((0, 3), (1, 2), (2, 3)))))),
                         (0, (2, 3), 1, (3, 2)))

    def test_python_order_of_tuples_of_people(self):
        # (1, 2) stands ahead of (2,): twins of two people can come ahead of those of one.
        facts = (((5, ((0, 1),)), (5, ((0, 1), (0, 4), (2, 3)))),)
        self.assertEqual(twin_parts(1, facts), slow_twin_parts(1, facts))
        self.assertEqual(twin_parts(1, facts), (0, (1, 2), 0, (1, 4)))
        facts = (((4, ((1, 2), (1, 3), (2, 3))),) * 2, ((3, ((1, 2),)), (3, ())))
        self.assertEqual(twin_parts(1, facts), (0, (1, 2), 1, (1, 2)))

    def test_facts_of_a_script_have_none(self):
        picker = Picker(407)
        for named in (1, 2, 3):
            for _ in range(20):
                script = pick_script(picker, named, 3)
                companies = [pick_company(picker, named + picker.below(5)) for _ in range(4)]
                self.assertIsNone(twin_parts(named, tuple((company, slow_done(company, script)) for company in companies)))

    def test_nine_people(self):
        picker = Picker(408)
        for named in (1, 2, 3):
            script = pick_script(picker, named, 4)
            facts = [(company, slow_done(company, script)) for company in [pick_company(picker, 9) for _ in range(4)]]
            self.assertIsNone(twin_parts(named, tuple(facts)))
            people, ties = facts[3][1]
            facts[3] = (facts[3][0], (people, tuple(tie for tie in ties if tie != (7, 8)) if (7, 8) in ties else ties + ((7, 8),)))
            self.assertEqual(twin_parts(named, tuple(facts)), slow_twin_parts(named, tuple(facts)))


if __name__ == "__main__":
    unittest.main()
