"""Points 15, 16, 54 and 55: small companies, lots of them, and what is clear of them."""

import unittest
from itertools import permutations

from tests.helpers import ANYTHING, Picker, every_company, every_small, most_small, pick_company, pick_lot, refuse, slow_clear
from tests.helpers import slow_copies, slow_least_form, slow_part, slow_places, wrong_barred_lots, wrong_companies, wrong_nameds
from tests.helpers import wrong_numbers, wrong_smalls
from twobesides.barredlots import are_lots_alike, clear_apart, count_clear, held_at, is_barred_lot, is_clear, least_copy, least_lot
from twobesides.errors import InvalidCompany, InvalidLot, InvalidNamed, InvalidNumber


def picked_lots(seed, many):
    """Lots of few companies, often of such with few ties or few people, with the number of named ones."""
    picker = Picker(seed)
    for named in (1, 2, 3):
        smalls = every_small(named)
        few = [company for company in smalls if company[0] <= named + 2 and len(company[1]) < 4]
        for _ in range(many):
            lot = pick_lot(picker, named, picker.below(4), few) + pick_lot(picker, named, picker.below(4))
            yield named, tuple(sorted(set(lot)))


class BarredLots(unittest.TestCase):
    def test_small_companies_at_the_limits(self):
        for named in (1, 2, 3):
            for people in range(named, 10):
                self.assertIs(is_barred_lot(named, ((people, ()),)), people <= min(5, named + 3))

    def test_lots(self):
        for named, lot in picked_lots(70, 20):
            self.assertIs(is_barred_lot(named, lot), True)
            if len(lot) > 1:
                self.assertIs(is_barred_lot(named, lot[::-1]), False)
                self.assertIs(is_barred_lot(named, lot + lot[-1:]), False)
                self.assertIs(is_barred_lot(named, lot[:1] + lot), False)
                self.assertIs(is_barred_lot(named, list(lot)), False)

    def test_none_and_six_hundred(self):
        for named in (1, 2, 3):
            smalls = tuple(every_small(named))
            self.assertIs(is_barred_lot(named, ()), True)
            self.assertIs(is_barred_lot(named, smalls[-600:]), True)
            self.assertEqual(len(smalls), {1: 75, 2: 1098, 3: 1096}[named])
            if named > 1:
                self.assertIs(is_barred_lot(named, smalls[-601:]), False)
                self.assertIs(is_barred_lot(named, smalls[:601]), False)

    def test_other_values(self):
        for named in (1, 2, 3):
            for value in wrong_barred_lots(named):
                self.assertIs(is_barred_lot(named, value), False)
        for value in wrong_nameds():
            self.assertRaises(InvalidNamed, is_barred_lot, value, ())


class LeastCopies(unittest.TestCase):
    def test_all_of_one_named_one(self):
        for small in every_small(1):
            self.assertEqual(least_copy(1, small), min(slow_copies(1, small)))

    def test_picked(self):
        picker = Picker(71)
        for named in (2, 3):
            for _ in range(200):
                small = picker.one_of(every_small(named))
                self.assertEqual(least_copy(named, small), min(slow_copies(named, small)))

    def test_wrong_arguments(self):
        for named in (1, 2, 3):
            refuse(self, least_copy, [
                (named, InvalidNamed, wrong_nameds()), ((named, ()), InvalidCompany, wrong_smalls(named)),
            ])


class HeldAt(unittest.TestCase):
    def test_picked(self):
        picker = Picker(72)
        for named in (1, 2, 3):
            found = 0
            for _ in range(60):
                company = pick_company(picker, named + picker.below(10 - named))
                small = picker.one_of(every_small(named))
                if picker.below(2):
                    many = picker.below(1 + min(most_small(named), company[0]) - named)
                    small = slow_part(named, company, picker.shuffled(range(named, company[0]))[:many])
                places = slow_places(named, company, small)
                found += places != []
                self.assertEqual(held_at(named, company, small), min(places, default=None))
            self.assertGreater(found, 20)

    def test_least_of_many_places(self):
        self.assertEqual(held_at(1, (9, ()), (4, ())), (1, 2, 3))
        self.assertEqual(held_at(1, (9, ((0, 8), (7, 8))), (3, ((0, 1), (1, 2)))), (8, 7))
        self.assertEqual(held_at(1, (9, ((0, 8), (7, 8))), (3, ((0, 2), (1, 2)))), (7, 8))
        self.assertEqual(held_at(2, (5, ()), (2, ())), ())
        self.assertIsNone(held_at(2, (5, ()), (2, ((0, 1),))))

    def test_more_people_than_there_are(self):
        for named in (1, 2, 3):
            self.assertIsNone(held_at(named, (named, ()), (named + 1, ())))
            self.assertIsNone(held_at(named, (named + 1, ()), (most_small(named), ())))
            self.assertEqual(held_at(named, (most_small(named), ()), (most_small(named), ())), tuple(range(named, most_small(named))))

    def test_wrong_arguments(self):
        for named in (1, 2, 3):
            refuse(self, held_at, [
                (named, InvalidNamed, wrong_nameds()), ((named + 4, ()), InvalidCompany, wrong_companies(named)),
                ((named, ()), InvalidCompany, wrong_smalls(named)),
            ])


class Clear(unittest.TestCase):
    def test_picked(self):
        picker = Picker(73)
        told = []
        for named, lot in picked_lots(74, 40):
            company = pick_company(picker, named + picker.below(min(6, 10 - named)))
            told.append(is_clear(named, company, lot))
            self.assertIs(told[-1], slow_clear(named, company, lot))
        self.assertGreater(min(told.count(True), told.count(False)), 20)

    def test_clear_of_no_lot(self):
        for named in (1, 2, 3):
            for company in ((named, ()), (9, ((0, 8), (7, 8)))):
                self.assertIs(is_clear(named, company, ()), True)

    def test_each_order_of_each_few_counts(self):
        for named in (1, 2, 3):
            for besides in permutations(range(named, 9), 2):
                company = (9, tuple(sorted([(0, besides[0]), tuple(sorted(besides))])))
                self.assertIs(is_clear(named, company, ((named + 2, ((0, named), (named, named + 1))),)), False)
                self.assertIs(is_clear(named, company, ((named + 2, ((0, named), (0, named + 1))),)), True)

    def test_a_start_alone_can_be_barred(self):
        self.assertIs(is_clear(2, (9, ((0, 1),)), ((2, ((0, 1),)),)), False)
        self.assertIs(is_clear(2, (9, ((0, 2),)), ((2, ((0, 1),)),)), True)
        self.assertIs(is_clear(1, (1, ()), ((1, ()),)), False)
        self.assertIs(is_clear(1, (1, ()), ((2, ()),)), True)

    def test_six_hundred_barred(self):
        for named in (2, 3):
            lot = tuple(every_small(named)[-600:])
            self.assertIs(is_clear(named, (9, ()), lot), True)
            self.assertIs(is_clear(named, (5, every_small(named)[-601][1]), lot), slow_clear(named, every_small(named)[-601], lot))
            self.assertIs(is_clear(named, lot[0], lot), False)

    def test_wrong_arguments(self):
        for named in (1, 2, 3):
            refuse(self, is_clear, [
                (named, InvalidNamed, wrong_nameds()), ((named, ()), InvalidCompany, wrong_companies(named)),
                ((), InvalidLot, wrong_barred_lots(named)),
            ])


class LeastForms(unittest.TestCase):
    def test_picked(self):
        shorter = 0
        for named, lot in picked_lots(75, 40):
            self.assertEqual(least_lot(named, lot), slow_least_form(named, lot))
            shorter += len(least_lot(named, lot)) < len(lot)
        self.assertGreater(shorter, 20)

    def test_all_of_one_size(self):
        for named in (1, 2, 3):
            for people in range(named, most_small(named)):
                lot = tuple(every_company(people))
                self.assertEqual(least_lot(named, lot), slow_least_form(named, lot))
        self.assertEqual(least_lot(1, tuple(every_small(1))), ((1, ()),))
        self.assertEqual(least_lot(2, tuple(every_small(2)[:600])), ((2, ()), (2, ((0, 1),))))

    def test_no_lot(self):
        for named in (1, 2, 3):
            self.assertEqual(least_lot(named, ()), ())

    def test_six_hundred(self):
        picker = Picker(76)
        for named in (2, 3):
            lot = tuple(sorted(picker.shuffled(every_company(5))[:600]))
            self.assertEqual(least_lot(named, lot), tuple(sorted({min(slow_copies(named, company)) for company in lot})))

    def test_wrong_arguments(self):
        for named in (1, 2, 3):
            refuse(self, least_lot, [(named, InvalidNamed, wrong_nameds()), ((), InvalidLot, wrong_barred_lots(named))])


class Apart(unittest.TestCase):
    def pairs_of_lots(self, seed, many):
        lots = list(picked_lots(seed, many))
        for at in range(len(lots) - 1):
            if lots[at][0] == lots[at + 1][0]:
                yield lots[at][0], lots[at][1], lots[at + 1][1]
                yield lots[at][0], lots[at][1], least_lot(*lots[at])
                yield lots[at][0], lots[at][1] + lots[at][1][:0], lots[at][1][1:]
                yield lots[at][0], lots[at][1][1:], lots[at][1]

    def slow_apart(self, named, lot, mate):
        for company in every_small(named):
            if not slow_clear(named, company, mate) and slow_clear(named, company, lot):
                return company
        return None

    def test_picked(self):
        alike = 0
        for named, lot, mate in self.pairs_of_lots(77, 7):
            apart = self.slow_apart(named, lot, mate)
            self.assertEqual(clear_apart(named, lot, mate), apart)
            told = apart is None and self.slow_apart(named, mate, lot) is None
            self.assertIs(are_lots_alike(named, lot, mate), told)
            alike += told
        self.assertGreater(alike, 10)

    def test_lots_and_none(self):
        for named in (1, 2, 3):
            everything = tuple(every_small(named)[:600])
            self.assertIs(are_lots_alike(named, (), ()), True)
            self.assertIs(are_lots_alike(named, (), everything), False)
            self.assertIsNone(clear_apart(named, everything, ()))
            self.assertEqual(clear_apart(named, (), everything), (named, ()))

    def test_people_come_ahead_of_ties(self):
        self.assertEqual(clear_apart(1, (), ((2, ((0, 1),)), (3, ()))), (2, ((0, 1),)))
        self.assertEqual(clear_apart(1, ((2, ((0, 1),)),), ((2, ((0, 1),)), (3, ()))), (3, ()))
        self.assertEqual(clear_apart(1, (), ((3, ((0, 2),)),)), (3, ((0, 1),)))

    def test_a_lot_with_greater_companies_than_the_other(self):
        self.assertIsNone(clear_apart(1, ((2, ()),), ((4, ()),)))
        self.assertEqual(clear_apart(1, ((4, ()),), ((2, ()),)), (2, ()))
        self.assertEqual(clear_apart(2, ((2, ()),), ((5, ()),)), None)

    def test_wrong_arguments(self):
        for named in (1, 2, 3):
            rows = [(named, InvalidNamed, wrong_nameds())] + [((), InvalidLot, wrong_barred_lots(named))] * 2
            refuse(self, are_lots_alike, rows)
            refuse(self, clear_apart, rows)


def parts_of_all(named):
    """For each small company the parts of it for all tuples of unlike people besides."""
    told = {}
    for company in every_small(named):
        orders = [order for many in range(company[0] - named + 1) for order in permutations(range(named, company[0]), many)]
        told[company] = {slow_part(named, company, order) for order in orders}
    return told


class DrawnLots(unittest.TestCase):
    """Some hundred lots; all small companies are looked at for each of them."""

    def drawn(self, picker, named, smalls):
        """A lot of none, one, two, three, or many companies, of all or of few people."""
        many = picker.one_of((0, 1, 1, 2, 2, 3, 3, 4, 7, 20, 90))
        most = picker.one_of((named + 1, most_small(named) - 1, most_small(named), most_small(named)))
        return pick_lot(picker, named, many, [small for small in smalls if small[0] <= most])

    def mates(self, picker, named, lot, parts):
        """Lots beside a lot: others, such that bar as much, and such that bar a little more or less."""
        yield self.drawn(picker, named, list(parts))
        copies = {picker.one_of(sorted(part for part in parts[small] if part[0] == small[0])) for small in lot}
        held = [small for small in parts if any(part in parts[small] for part in lot)]
        yield tuple(sorted(copies))
        yield tuple(sorted(copies | {picker.one_of(held) for _ in range(3 if held else 0)}))
        yield lot[1:]
        yield tuple(sorted(set(lot) | {picker.one_of(list(parts))}))

    def test_drawn(self):
        picker = Picker(79)
        alike = []
        for named, many in ((1, 120), (2, 60), (3, 60)):
            parts = parts_of_all(named)
            for _ in range(many):
                lot = self.drawn(picker, named, list(parts))
                clear = [company for company in parts if parts[company].isdisjoint(lot)]
                self.check_one(named, lot, parts, clear)
                for mate in self.mates(picker, named, lot, parts):
                    alike.append(self.check_two(named, lot, mate, parts, clear))
        self.assertGreater(min(alike.count(True), alike.count(False)), 200)

    def check_one(self, named, lot, parts, clear):
        for people in range(named, most_small(named) + 1):
            self.assertEqual(count_clear(named, lot, people), sum(company[0] == people for company in clear))
        least = set()
        for small in lot:
            if not any(other[0] < small[0] and other in parts[small] for other in lot):
                least.add(min(part for part in parts[small] if part[0] == small[0]))
        self.assertEqual(least_lot(named, lot), tuple(sorted(least)))

    def check_two(self, named, lot, mate, parts, clear):
        others = [company for company in parts if parts[company].isdisjoint(mate)]
        self.assertEqual(clear_apart(named, lot, mate), min(set(clear) - set(others), default=None))
        self.assertEqual(clear_apart(named, mate, lot), min(set(others) - set(clear), default=None))
        self.assertIs(are_lots_alike(named, lot, mate), clear == others)
        return clear == others

    def test_short_lots_with_companies_of_five_people(self):
        for named in (2, 3):
            parts = parts_of_all(named)
            for lot in (((5, ()),), ((3, ((0, 2),)), (5, ((0, 1), (3, 4)))), ((5, ((0, 1), (3, 4))),), ((4, ((0, 3),)), (5, ((0, 4),)))):
                if is_barred_lot(named, lot):
                    self.check_one(named, lot, parts, [company for company in parts if parts[company].isdisjoint(lot)])
        self.assertEqual(least_lot(2, ((3, ((0, 2),)), (5, ((0, 1), (3, 4))))), ((3, ((0, 2),)), (5, ((0, 1), (2, 3)))))
        self.assertEqual(least_lot(2, ((5, ()),)), ((5, ()),))
        self.assertEqual(count_clear(2, (), 5), 1024)


class Counts(unittest.TestCase):
    def test_picked(self):
        for named, lot in picked_lots(78, 8):
            for people in range(named, min(4, most_small(named)) + 1):
                told = [company for company in every_company(people) if slow_clear(named, company, lot)]
                self.assertEqual(count_clear(named, lot, people), len(told))

    def test_five_people(self):
        for named in (2, 3):
            lots = [((3, ((0, 2), (1, 2))),), ((4, ((0, 2),)), (4, ((0, 2), (0, 3), (2, 3))), (5, ()))]
            for lot in [lots[0]][:3 - named] + lots[1:]:
                told = [company for company in every_company(5) if slow_clear(named, company, lot)]
                self.assertEqual(count_clear(named, lot, 5), len(told))

    def test_both_ends(self):
        for named in (1, 2, 3):
            for people in (named, most_small(named)):
                self.assertEqual(count_clear(named, (), people), len(every_company(people)))
                self.assertEqual(count_clear(named, tuple(every_company(named)), people), 0)
            self.assertEqual(count_clear(named, ((most_small(named), ()),), named), len(every_company(named)))
            self.assertEqual(count_clear(named, ((most_small(named), ()),), most_small(named)), len(every_company(most_small(named))) - 1)
            for people in (named - 1, most_small(named) + 1):
                self.assertRaises(InvalidNumber, count_clear, named, (), people)

    def test_wrong_arguments(self):
        for named in (1, 2, 3):
            refuse(self, count_clear, [
                (named, InvalidNamed, wrong_nameds()), ((), InvalidLot, wrong_barred_lots(named)),
                (named, InvalidNumber, wrong_numbers(most_small(named), named)),
            ])

    def test_anything_is_refused(self):
        for value in ANYTHING:
            self.assertRaises(InvalidNumber, count_clear, 1, (), value)


if __name__ == "__main__":
    unittest.main()
