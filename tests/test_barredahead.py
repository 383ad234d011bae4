"""Points 16 to 18, 56 and 57: lots ahead of scripts, and lots that are shut."""

import unittest

from tests.helpers import Picker, every_company, every_deed, every_small, most_small, pick_lot, pick_script, refuse, slow_clear
from tests.helpers import slow_copies, slow_done, slow_least_form, wrong_barred_lots, wrong_lots, wrong_nameds, wrong_scripts
from tests.helpers import wrong_smalls
from twobesides.barredahead import company_fallen, does_lead, led_from, lot_ahead, shut_lot
from twobesides.errors import InvalidCompany, InvalidLot, InvalidNamed, InvalidScript

DX = (("pairs", 0, (0, 0, 1, 1, 1, 1)),)
DN, DT = ((3, ((0, 1), (0, 2))),), ((3, ((0, 1), (0, 2), (1, 2))),)
ROUND = (("takes", 0, 1, (0, 1, 1, 0)), ("takes", 1, 0, (0, 1, 1, 0)), ("tie", 0, 1, "turn"))


def slow_ahead(named, script, lot):
    """The lot ahead of a script, by the words of [17]."""
    copies = {copy for small in lot for copy in slow_copies(named, small)}
    companies = [company for people in {small[0] for small in lot} for company in every_company(people)]
    return slow_least_form(named, [company for company in companies if slow_done(company, script) in copies])


def slow_fallen(named, script, lot, mate):
    """The least company clear of one lot of which one comes not clear of the other one."""
    for company in every_small(named):
        if not slow_clear(named, slow_done(company, script), mate) and slow_clear(named, company, lot):
            return company
    return None


def slow_shut(named, stock, lot):
    lots = [slow_least_form(named, lot)]
    while len(lots) < 2 or lots[-1] != lots[-2]:
        longer = set(lots[-1])
        for script in stock:
            longer |= set(slow_ahead(named, script, lots[-1]))
        lots.append(slow_least_form(named, sorted(longer)))
    return lots[-1], len(lots) - 2


def few_smalls(named):
    """Small companies of few people: with them slow workings out end soon."""
    return [company for company in every_small(named) if company[0] <= max(named + 1, 4)]


def picked(seed, many):
    """Triples of a number of named ones, a script, and a lot."""
    picker = Picker(seed)
    for named in (1, 2, 3):
        for _ in range(many):
            script = pick_script(picker, named, picker.below(4), 1)
            yield named, script, pick_lot(picker, named, 1 + picker.below(4), few_smalls(named))


class LotAhead(unittest.TestCase):
    def test_picked(self):
        told = set()
        for named, script, lot in picked(80, 25):
            ahead = lot_ahead(named, script, lot)
            self.assertEqual(ahead, slow_ahead(named, script, lot))
            told.add(len(ahead))
        self.assertGreater(len(told), 5)

    def test_five_people(self):
        picker = Picker(81)
        for named in (2, 3):
            for _ in range(3):
                script = pick_script(picker, named, 2, 1)
                lot = pick_lot(picker, named, 3, every_company(5))
                self.assertEqual(lot_ahead(named, script, lot), slow_ahead(named, script, lot))

    def test_each_deed_of_one_named_one(self):
        for deed in every_deed(1)[::5]:
            for lot in (DN, DT, DN + DT, ((4, ((1, 2),)),), ((3, ()), (4, ((1, 2), (1, 3), (2, 3))))):
                self.assertEqual(lot_ahead(1, (deed,), lot), slow_ahead(1, (deed,), lot))

    def test_no_lot_and_no_items(self):
        for named in (1, 2, 3):
            lot = tuple(every_small(named)[-600:])
            self.assertEqual(lot_ahead(named, (), ()), ())
            self.assertEqual(lot_ahead(named, DX, ()), ())
            self.assertEqual(lot_ahead(named, (), lot), slow_least_form(named, lot))

    def test_a_start_comes_of_few_starts(self):
        self.assertEqual(lot_ahead(2, (("tie", 0, 1, "turn"),), ((2, ()),)), ((2, ((0, 1),)),))
        self.assertEqual(lot_ahead(2, (("tie", 0, 1, "know"),), ((2, ()),)), ())
        self.assertEqual(lot_ahead(2, (("tie", 0, 1, "know"),), ((2, ((0, 1),)),)), ((2, ()), (2, ((0, 1),))))

    def test_lots_of_unlike_sizes(self):
        # What comes to a barred company with one besides is barred, however many more there are.
        lot = ((2, ((0, 1),)), (4, ((1, 2), (1, 3), (2, 3))))
        self.assertEqual(lot_ahead(1, DX, lot), slow_ahead(1, DX, lot))
        self.assertEqual(lot_ahead(1, DX, lot)[0], (2, ((0, 1),)))

    def test_choices(self):
        script = (("ask", 0, 1, (("takes", 0, 1, (0, 1, 0, 1)),), (("tie", 0, 1, "know"),)),)
        lot = ((3, ((0, 1), (0, 2), (1, 2))), (4, ((0, 2), (0, 3))))
        self.assertEqual(lot_ahead(2, script, lot), slow_ahead(2, script, lot))

    def test_wrong_arguments(self):
        for named in (1, 2, 3):
            refuse(self, lot_ahead, [
                (named, InvalidNamed, wrong_nameds()), ((), InvalidScript, wrong_scripts(named)),
                ((), InvalidLot, wrong_barred_lots(named)),
            ])


class Leading(unittest.TestCase):
    def test_picked(self):
        picker = Picker(82)
        leads = 0
        for named, script, lot in picked(83, 8):
            mates = [lot, lot_ahead(named, script, lot), pick_lot(picker, named, 2, few_smalls(named))]
            for one, other in [(lot, mates[1]), (mates[1], lot), (lot, lot), (lot, mates[2]), (mates[2], lot)]:
                fallen = slow_fallen(named, script, one, other)
                self.assertEqual(company_fallen(named, script, one, other), fallen)
                self.assertIs(does_lead(named, script, one, other), fallen is None)
                leads += fallen is None
        self.assertGreater(leads, 25)

    def test_no_lots(self):
        for named in (1, 2, 3):
            for script in ((), DX):
                self.assertIs(does_lead(named, script, (), ()), True)
                self.assertIs(does_lead(named, script, ((named, ()),), ()), True)
                self.assertIs(does_lead(named, script, (), ((named, ()),)), False)
                self.assertEqual(company_fallen(named, script, (), ((named, ()),)), (named, ()))

    def test_the_least_company_falls(self):
        self.assertEqual(company_fallen(1, (("pairs", 0, (0, 0, 0, 1, 1, 1)),), (), ((3, ((0, 2),)), (4, ()))), (3, ((0, 1),)))
        self.assertEqual(company_fallen(1, DX, DT, DT), (3, ((0, 1), (0, 2))))
        self.assertEqual(company_fallen(1, DX, DN, DT), (3, ((0, 1), (0, 2), (1, 2))))
        self.assertIsNone(company_fallen(1, DX, DN + DT, DN + DT))

    def test_a_lot_with_greater_companies_than_the_other(self):
        self.assertEqual(company_fallen(2, (), ((5, ()),), ((2, ()),)), (2, ()))
        self.assertIsNone(company_fallen(2, (), ((2, ()),), ((5, ()),)))

    def test_wrong_arguments(self):
        for named in (1, 2, 3):
            rows = [(named, InvalidNamed, wrong_nameds()), ((), InvalidScript, wrong_scripts(named))]
            rows += [((), InvalidLot, wrong_barred_lots(named)[::3])] * 2
            refuse(self, does_lead, rows)
            refuse(self, company_fallen, rows)


class Shut(unittest.TestCase):
    def test_picked(self):
        picker = Picker(84)
        steps = set()
        for named, many in ((1, 40), (2, 15), (3, 10)):
            for _ in range(many):
                stock = tuple(pick_script(picker, named, 1 + picker.below(2), 1) for _ in range(1 + picker.below(4)))
                lot = pick_lot(picker, named, 1 + picker.below(2), few_smalls(named))
                told = slow_shut(named, stock, lot)
                self.assertEqual(shut_lot(named, stock, lot), told)
                steps.add(told[1])
        self.assertGreaterEqual(len(steps), 5)

    def test_steps(self):
        self.assertEqual(shut_lot(2, ((),), DN), (DN, 0))
        self.assertEqual(shut_lot(1, ((),), DN + ((4, ((0, 1), (0, 2))),)), (DN, 0))
        self.assertEqual(shut_lot(1, ((DX), ()), DT), (DN + DT, 1))
        # By doing it three times more the script comes to each of six companies.
        self.assertEqual(shut_lot(2, (ROUND,), ((3, ((0, 2),)),)), slow_shut(2, (ROUND,), ((3, ((0, 2),)),)))
        self.assertGreater(shut_lot(2, (ROUND,), ((3, ((0, 2),)),))[1], 3)

    def test_one_script_and_four(self):
        for named in (1, 2, 3):
            lot = ((named, ()),)
            self.assertEqual(shut_lot(named, (DX,), ()), ((), 0))
            self.assertEqual(shut_lot(named, (DX,) * 4, ()), ((), 0))
            self.assertEqual(shut_lot(named, (DX, (), DX, ()), lot), slow_shut(named, (DX,), lot))
            for stock in ((), (DX,) * 5):
                self.assertRaises(InvalidScript, shut_lot, named, stock, lot)

    def test_rows_of_scripts_lead_from_what_is_shut(self):
        picker = Picker(85)
        for named in (1, 2):
            for _ in range(6):
                stock = tuple(pick_script(picker, named, 2, 1) for _ in range(3))
                lot = pick_lot(picker, named, 2, few_smalls(named))
                shut, steps = shut_lot(named, stock, lot)
                for script in stock:
                    self.assertIs(does_lead(named, script, shut, shut), True)
                for company in every_company(named + 2)[::3]:
                    self.assertIs(slow_clear(named, company, shut), self.stay_clear(named, company, stock, lot, steps))

    def stay_clear(self, named, company, stock, lot, steps):
        """Whether all that comes of a company by rows of so many scripts at most is clear of a lot."""
        led = {company}
        for _ in range(steps):
            led |= {slow_done(one, script) for one in led for script in stock}
        return all(slow_clear(named, one, lot) for one in led)

    def test_wrong_arguments(self):
        for named in (1, 2, 3):
            refuse(self, shut_lot, [
                (named, InvalidNamed, wrong_nameds()), (((), DX), InvalidScript, wrong_lots(named, 4)),
                ((), InvalidLot, wrong_barred_lots(named)),
            ])


class LedFrom(unittest.TestCase):
    def test_picked(self):
        found = []
        picker = Picker(86)
        for named in (1, 2, 3):
            for _ in range(60):
                script = pick_script(picker, named, 1 + picker.below(3), 1)
                small = picker.one_of(few_smalls(named))
                if picker.below(2):
                    small = slow_done(small, script)
                ahead = [company for company in every_company(small[0]) if slow_done(company, script) == small]
                self.assertEqual(led_from(named, script, small), min(ahead, default=None))
                found.append(ahead != [])
        self.assertGreater(min(found.count(True), found.count(False)), 30)

    def test_the_small_one_itself_comes_not_a_copy(self):
        for small in every_company(4):
            ahead = [company for company in every_company(4) if slow_done(company, DX) == small]
            self.assertEqual(led_from(1, DX, small), min(ahead, default=None))
            self.assertEqual(led_from(1, (), small), small)

    def test_greatest_small_companies(self):
        for named in (1, 2, 3):
            small = (most_small(named), ((0, 1),))
            self.assertEqual(led_from(named, (), small), small)
            self.assertRaises(InvalidCompany, led_from, named, (), (small[0] + 1, ((0, 1),)))

    def test_wrong_arguments(self):
        for named in (1, 2, 3):
            refuse(self, led_from, [
                (named, InvalidNamed, wrong_nameds()), ((), InvalidScript, wrong_scripts(named)),
                ((named, ()), InvalidCompany, wrong_smalls(named)),
            ])


class Soon(unittest.TestCase):
    """Hundreds of companies, three named ones, long scripts: this is to take no minutes."""

    def test_lots_of_six_hundred(self):
        picker = Picker(87)
        for named in (2, 3):
            lot, mate = (tuple(sorted(picker.shuffled(every_company(5))[:600])) for _ in range(2))
            stock = tuple(pick_script(picker, named, 6, 1)[:12] for _ in range(4))
            shut, steps = shut_lot(named, stock, lot)
            self.assertEqual(shut_lot(named, stock, shut[:600])[0][:1], shut[:1])
            self.assertGreaterEqual(steps, 0)
            for script in stock:
                self.assertIs(does_lead(named, script, shut[:600], ()), True)
                self.assertEqual(does_lead(named, script, lot, mate), company_fallen(named, script, lot, mate) is None)
                self.assertLessEqual(len(lot_ahead(named, script, lot)), 600)

    def test_many_steps(self):
        picker = Picker(88)
        most = 0
        for _ in range(40):
            stock = tuple(pick_script(picker, 3, 2, 0) for _ in range(4))
            most = max(most, shut_lot(3, stock, pick_lot(picker, 3, 1, every_company(5)))[1])
        self.assertGreater(most, 8)


if __name__ == "__main__":
    unittest.main()
