"""Points 27 and 70: scripts drawn out, and how deep they must be."""

import unittest

from tests.helpers import Picker, deep_script, every_start, pick_deed, pick_script, refuse, slow_deeds, slow_done, slow_know
from tests.helpers import slow_part, every_company, wrong_nameds, wrong_scripts
from twobesides.ahead import ahead_depth, ahead_script
from twobesides.errors import InvalidNamed, InvalidScript
from twobesides.scripts import is_script

TURN, KNOW, PART = (("tie", 0, 1, word) for word in ("turn", "know", "part"))
FLIP, FORGET = ("pairs", 0, (1, 1, 1, 0, 0, 0)), ("pairs", 0, (0, 0, 0, 0, 0, 0))


def ask(pair, first, second):
    return (("ask", pair[0], pair[1], first, second),)


def odd(pairs, first, second):
    """A script that does the first one of two if an odd number of pairs know one another, else the second one."""
    if pairs == []:
        return second
    return ask(pairs[0], odd(pairs[1:], second, first), odd(pairs[1:], first, second))


def slow_rows(named, script):
    return {start: tuple(slow_deeds(start, script)[0]) for start in every_start(named)}


def slow_right(named, script):
    """For each row of a script the starts such that it does what the script does to all views with them."""
    views = every_company(named + 2)
    behind = {view: slow_done(view, script) for view in views}
    right = {}
    for row in set(slow_rows(named, script).values()):
        wrong = {slow_part(named, view, ()) for view in views if slow_done(view, row) != behind[view]}
        right[row] = set(every_start(named)) - wrong
    return right


def slow_depth(named, right, starts):
    """The least depth by which some starts can each be led to a row that is right for them."""
    depth = 0
    while not can_be_drawn(named, right, starts, depth):
        depth += 1
    return depth


def can_be_drawn(named, right, starts, depth):
    if any(starts <= some for some in right.values()):
        return True
    if depth == 0:
        return False
    for one in range(named):
        for other in range(one + 1, named):
            know = {start for start in starts if slow_know(start, one, other)}
            if can_be_drawn(named, right, know, depth - 1) and can_be_drawn(named, right, starts - know, depth - 1):
                return True
    return False


def slow_depth_of_drawn(drawn, rows):
    """The depth of a drawn out script whose deeds are told rows, or None for what is no such one."""
    if not isinstance(drawn, tuple):
        return None
    if len(drawn) == 1 and drawn[0][0] == "ask":
        depths = [slow_depth_of_drawn(part, rows) for part in drawn[0][3:]]
        return None if len(drawn[0]) != 5 or None in depths else 1 + max(depths)
    return 0 if drawn in rows else None


class Ahead(unittest.TestCase):
    def check(self, named, script):
        """Returns the least depth, which is also that of a drawn out script that does the same."""
        right = slow_right(named, script)
        depth = slow_depth(named, right, set(every_start(named)))
        self.assertEqual(ahead_depth(named, script), depth)
        drawn = ahead_script(named, script)
        self.assertEqual(slow_depth_of_drawn(drawn, list(right)), depth, drawn)
        for view in every_company(named + 2)[::1 if named < 3 else 7]:
            self.assertEqual(slow_done(view, drawn), slow_done(view, script))
        return depth

    def test_picked(self):
        picker = Picker(300)
        depths = []
        for named, many in ((1, 10), (2, 60), (3, 8)):
            for _ in range(many):
                script = pick_script(picker, named, 1 + picker.below(3), 2)
                if is_script(named, script):
                    depths.append(self.check(named, script))
        self.assertGreater(depths.count(0), 10)
        self.assertGreater(depths.count(1), 10)

    def test_picked_with_three_named_ones(self):
        picker = Picker(301)
        depths = set()
        for _ in range(8):
            arms = [(pick_deed(picker, 3),) for _ in range(4)]
            first, second = picker.shuffled([(0, 1), (0, 2), (1, 2)])[:2]
            depths.add(self.check(3, ask(first, ask(second, arms[0], arms[1]), ask(second, arms[2], arms[3]))))
        self.assertIn(2, depths)

    def test_nothing_is_asked(self):
        for named in (1, 2, 3):
            for script in ((), (FLIP,), (FLIP, FORGET) * 15):
                self.assertEqual(ahead_depth(named, script), 0)
                self.assertEqual(ahead_script(named, script), script)

    def test_choices_whose_answers_are_known(self):
        for named in (2, 3):
            self.assertEqual(self.check(named, (KNOW,) + ask((1, 0), (FLIP,), (FORGET,))), 0)
            self.assertEqual(ahead_script(named, (KNOW,) + ask((1, 0), (FLIP,), (FORGET,))), (KNOW, FLIP))
            self.assertEqual(ahead_script(named, (PART,) + ask((1, 0), (FLIP,), (FORGET,))), (PART, FORGET))
            self.assertEqual(ahead_depth(named, (KNOW,) + deep_script(4)), 0)
            self.assertEqual(ahead_script(named, deep_script(4)), ())

    def test_only_rows_of_the_script_stand_behind_choices(self):
        # One deed by itself would let both know one another, whatever was; but it is no row of this script.
        for named in (2, 3):
            self.assertEqual(self.check(named, ask((0, 1), (), (TURN,))), 1)
            self.assertEqual(self.check(named, ask((0, 1), (FLIP,), (FLIP, FLIP))), 1)

    def test_unlike_rows_that_do_the_same(self):
        for named in (2, 3):
            self.assertEqual(ahead_script(named, ask((0, 1), (PART,), (TURN, TURN))), (PART,))
            script = ask((0, 1), (TURN, TURN, FLIP), (FLIP,))
            self.assertEqual(self.check(named, script), 0)
            self.assertIn(ahead_script(named, script), ((TURN, TURN, FLIP), (FLIP,)))

    def test_a_row_of_one_start_is_right_for_another_one(self):
        # Both rows are right where both know one another, the second one alone elsewhere.
        script = ask((0, 1), (KNOW,), (TURN,))
        self.assertEqual(ahead_depth(2, script), 0)
        self.assertEqual(ahead_script(2, script), (KNOW,))

    def test_rows_that_part_only_with_two_besides(self):
        # Where both know one another, this deed changes only what two others are to one another, whom none knows.
        deed = ("pairs", 0, (1, 0, 0, 0, 1, 1))
        for named in (2, 3):
            for company in every_company(named + 1):
                if named == 2 and slow_know(company, 0, 1):
                    self.assertEqual(slow_done(company, (deed,)), company)
            self.assertEqual(self.check(named, ask((0, 1), (deed,), ())), 1)
            # And where they do not, this one only what two others are who are known to the doer.
            deed_beside = ("pairs", 0, (0, 0, 1, 1, 1, 0))
            self.assertEqual(self.check(named, ask((0, 1), (), (deed_beside,))), 1)

    def test_one_choice_two_and_three(self):
        pairs = [(0, 1), (0, 2), (1, 2)]
        for many in range(4):
            self.assertEqual(self.check(3, odd(pairs[:many], (FLIP,), (FORGET,))), many)
            self.assertEqual(self.check(3, odd(pairs[3 - many:], (FLIP,), (FORGET,))), many)
        self.assertEqual(self.check(2, odd(pairs[:1], (FLIP,), (FORGET,))), 1)
        self.assertEqual(self.check(3, odd([(2, 0), (1, 0), (0, 2)], (FLIP,), (FORGET,))), 1)

    def test_what_is_asked_later_is_asked_ahead(self):
        # By taking, the first one knows the third one just if the second one did.
        script = (("takes", 0, 1, (0, 1, 0, 1)),) + ask((0, 2), (FLIP,), (FORGET,))
        self.assertEqual(self.check(3, script), 1)
        drawn = ahead_script(3, script)
        self.assertEqual(sorted(drawn[0][1:3]), [1, 2])
        self.assertEqual(drawn[0][3:], (script[:1] + (FLIP,), script[:1] + (FORGET,)))

    def test_the_order_of_questions_counts(self):
        # Asked in the order in which the script asks, three questions would stand behind one another.
        script = ask((0, 1), ask((0, 2), (FLIP,), (FORGET,)), ask((0, 2), (FLIP,), (FORGET,)))
        self.assertEqual(self.check(3, script), 1)
        script = ask((0, 1), ask((0, 2), ask((1, 2), (FLIP,), (FORGET,)), (FLIP,)), ask((1, 2), (FLIP,), (FORGET,)))
        self.assertEqual(self.check(3, script), 3)

    def test_thirty_deeds_and_choices(self):
        deeds = tuple(("pairs", index % 3, (0, 1, 1, 1, 0, 1)) for index in range(13))
        script = ask((0, 1), deeds, ask((1, 2), deeds[:1], (FLIP,) * 13))
        self.assertEqual(is_script(3, script + (TURN,)), True)
        drawn = ahead_script(3, script + (TURN,))
        rows = set(slow_rows(3, script + (TURN,)).values())
        self.assertEqual(slow_depth_of_drawn(drawn, rows), ahead_depth(3, script + (TURN,)))
        for view in every_company(5)[::41]:
            self.assertEqual(slow_done(view, drawn), slow_done(view, script + (TURN,)))

    def test_wrong_arguments(self):
        for function in (ahead_depth, ahead_script):
            for named in (1, 2, 3):
                refuse(self, function, [(named, InvalidNamed, wrong_nameds()), ((), InvalidScript, wrong_scripts(named))])


if __name__ == "__main__":
    unittest.main()
