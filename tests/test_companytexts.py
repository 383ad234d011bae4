"""Points 11 and 49: companies and scripts as texts, and where texts are refused."""

import re
import unittest
from functools import lru_cache
from itertools import combinations, product

from tests.helpers import ANYTHING, Picker, deep_script, every_company, every_deed, pick_company, pick_script, refuse
from tests.helpers import wrong_companies, wrong_nameds, wrong_scripts
from twobesides.companies import is_company
from twobesides.companytexts import company_text, read_company, read_script, script_text
from twobesides.errors import InvalidCompany, InvalidNamed, InvalidScript, InvalidText
from twobesides.scripts import is_script

SIGNS = {"know": "k", "part": "s", "turn": "u"}
ALL_SIGNS = [chr(code) for code in range(ord(" "), ord("~") + 1)] + ["\n"]
ENDS = ["".join(ends) for many in range(5) for ends in product(("]", "/]"), repeat=many)]

FORMS = [(re.compile(form.replace(".", "([0-9])")), words) for form, words in (
    ("p.......", r'("pairs",\1,(\2,\3,\4,\5,\6,\7)),'), ("g......", r'("takes",\1,\2,(\3,\4,\5,\6)),'),
    ("k..", r'("tie",\1,\2,"know"),'), ("s..", r'("tie",\1,\2,"part"),'), ("u..", r'("tie",\1,\2,"turn"),'),
    (r"\?..\[", r'("ask",\1,\2,('), ("/", "),("), ("]", ")),"),
)]

ROWS = re.compile(r"(p[0-9]{7}|g[0-9]{6}|[ksu][0-9]{2}|\?[0-9]{2}\[|/|\])*")


def slow_company_text(company):
    return str(company[0]) + ":" + "".join(str(one) + str(other) for one, other in company[1])


def slow_script_text(script):
    told = ""
    for item in script:
        if item[0] == "pairs":
            told += "p" + str(item[1]) + "".join(map(str, item[2]))
        elif item[0] == "takes":
            told += "g" + str(item[1]) + str(item[2]) + "".join(map(str, item[3]))
        elif item[0] == "tie":
            told += SIGNS[item[3]] + str(item[1]) + str(item[2])
        else:
            told += f"?{item[1]}{item[2]}[{slow_script_text(item[3])}/{slow_script_text(item[4])}]"
    return told


def whole_company(named, text):
    """The company of a text, or None where it is none: told by the form of a whole text alone."""
    if not re.fullmatch("[0-9]:([0-9][0-9])*", text):
        return None
    ties = tuple((int(text[at]), int(text[at + 1])) for at in range(2, len(text), 2))
    company = (int(text[0]), ties)
    return company if is_company(named, company) else None


def turned(text):
    """A text with Python's words for each deed, and for each part of a choice, or None."""
    told, at = "", 0
    while at < len(text):
        found = [(form.match(text, at), words) for form, words in FORMS]
        found = [(match, words) for match, words in found if match]
        if not found:
            return None
        told += found[0][0].expand(found[0][1])
        at = found[0][0].end()
    return told


def whole_script(named, text):
    """The script of a text, or None where it is none: told by turning a whole text into Python."""
    words = turned(text)
    if words is None:
        return None
    try:
        script = eval("(" + words + ")")
    except SyntaxError:
        return None
    return script if is_script(named, script) and slow_script_text(script) == text else None


def begins_company(named, text):
    """Whether some text of a company begins so: none lacks more than two signs."""
    ends = [""] + list("0123456789:") + [one + other for one in "0123456789" for other in "0123456789:"]
    return any(whole_company(named, text + end) is not None for end in ends)


def begins_script(named, text):
    """Whether some text of a script begins so: what lacks is the rest of an item, and ends of choices."""
    longer = [text + rest for rest in rests(named) if ROWS.fullmatch(text + rest)]
    return any(whole_script(named, some + end) is not None for some in longer for end in ENDS)


@lru_cache
def rests(named):
    """All that can lack at the end of the text of a deed, or of the beginning of a choice."""
    words = ["p" + str(one) + "0" * 6 for one in range(named)]
    for one in range(named):
        for other in range(named):
            if one != other:
                words += [f"g{one}{other}0000", f"k{one}{other}", f"?{one}{other}[/"]
    return sorted({word[at:] for word in words for at in range(len(word) + 1)}, key=len)


def changed_texts(picker, text, signs, many):
    """Texts that differ from a text at one sign: each place is met, with so many other signs."""
    for at in range(len(text) + 1):
        yield text[:at]
        yield text[:at] + text[at + 1:]
        for _ in range(many):
            sign = picker.one_of(signs)
            yield text[:at] + sign + text[at + 1:]
            yield text[:at] + sign + text[at:]


class Refusing(unittest.TestCase):
    def check(self, named, text, whole, begins, read):
        """Ask for what a text tells, and for where it is refused, by the words of the document."""
        value = whole(named, text)
        if value is not None:
            self.assertEqual(read(named, text), value)
            return
        with self.assertRaises(InvalidText) as caught:
            read(named, text)
        at = caught.exception.at
        self.assertIn(at, range(len(text) + 1))
        self.assertTrue(begins(named, text[:at]), (named, text, at))
        if at < len(text):
            self.assertFalse(begins(named, text[:at + 1]), (named, text, at))

    def check_all_signs(self, named, text, whole, begins, read):
        """Ask for each beginning of a text with each sign behind it: most are refused there."""
        for at in range(len(text) + 1):
            for longer in [text[:at] + sign for sign in ALL_SIGNS]:
                if whole(named, longer) is not None:
                    self.assertEqual(read(named, longer), whole(named, longer))
                else:
                    self.refused_at(read, named, longer, at + 1 if begins(named, longer) else at)

    def refused_at(self, read, named, text, at):
        with self.assertRaises(InvalidText) as caught:
            read(named, text)
        self.assertEqual(caught.exception.at, at, (named, text))


class CompanyTexts(Refusing):
    def test_texts(self):
        picker = Picker(38)
        for named in (1, 2, 3):
            for people in range(named, 10):
                everybody = (people, tuple(combinations(range(people), 2)))
                for company in (pick_company(picker, people), (people, ()), everybody):
                    text = company_text(named, company)
                    self.assertEqual(text, slow_company_text(company))
                    self.assertEqual(read_company(named, text), company)

    def test_all_small_companies(self):
        for named in (1, 2, 3):
            for people in range(named, 5):
                for company in every_company(people):
                    self.assertEqual(read_company(named, company_text(named, company)), company)

    def test_changed_texts(self):
        picker = Picker(39)
        for named in (1, 2, 3):
            for people in (named, named + 1, 5, 9):
                text = slow_company_text(pick_company(picker, people))[:24]
                for changed in changed_texts(picker, text, "0123456789:x", 6):
                    self.check(named, changed, whole_company, begins_company, read_company)

    def test_all_signs_at_each_place(self):
        for named, text in ((1, "1:"), (1, "3:0102"), (2, "4:021323"), (3, "9:01126778")):
            self.check_all_signs(named, text, whole_company, begins_company, read_company)

    def test_all_short_texts(self):
        for named in (1, 2, 3):
            for many in range(5):
                for signs in product("0123:", repeat=many):
                    self.check(named, "".join(signs), whole_company, begins_company, read_company)

    def test_where_texts_are_refused(self):
        rows = [
            ("", 0), ("2", 1), ("4", 1), ("1:", 0), ("0:", 0), ("10:", 0), ("9", 1), ("a", 0), (":", 0), (" 4:", 0), ("4 :", 1),
            ("4;", 1), ("44:", 1), ("4:0", 3), ("4:021", 5), ("4:00", 3), ("4:10", 3), ("4:3", 2), ("4:4", 2), ("4:04", 3),
            ("4:0101", 5), ("4:0201", 5), ("4:0202", 5), ("4:0302", 4), ("4:030", 4), ("4:1201", 4), ("4:121", 5), ("4:122", 5), ("4:1212", 5),
            ("4:2323", 4), ("4:233", 4), ("4:0102031213230", 14), ("2:010", 4), ("2:01 ", 4), ("2:\n", 2), ("4:02,13", 4),
            ("4:02:", 4), ("9:787", 4), ("9:7", 3), ("9:8", 2), ("~" * 4000, 0), ("4:" + "01" * 1999, 5), ("4:-1", 2),
        ]
        for text, at in rows:
            self.refused_at(read_company, 2, text, at)
        self.refused_at(read_company, 1, "1:0", 2)
        self.refused_at(read_company, 1, "0:", 0)
        self.refused_at(read_company, 3, "2:", 0)
        self.assertEqual(read_company(1, "1:"), (1, ()))
        self.assertEqual(read_company(3, "3:"), (3, ()))
        self.assertEqual(read_company(2, "4:23"), (4, ((2, 3),)))

    def test_what_is_no_string(self):
        for named in (1, 2, 3):
            for value in ANYTHING + [4, ("4:",), ["4:"]]:
                if not isinstance(value, str):
                    self.refused_at(read_company, named, value, 0)
                    self.refused_at(read_script, named, value, 0)

    def test_wrong_arguments(self):
        for named in (1, 2, 3):
            rows = [(named, InvalidNamed, wrong_nameds()), ((named, ()), InvalidCompany, wrong_companies(named))]
            refuse(self, company_text, rows)
            refuse(self, read_company, [rows[0], (f"{named}:", InvalidText, ANYTHING + ["4", "0:", 4])])


class ScriptTexts(Refusing):
    def test_deeds(self):
        for named in (1, 2, 3):
            for deed in every_deed(named):
                text = script_text(named, (deed,))
                self.assertEqual(text, slow_script_text((deed,)))
                self.assertEqual(read_script(named, text), (deed,))

    def test_scripts(self):
        picker = Picker(40)
        for named in (1, 2, 3):
            for _ in range(150):
                script = pick_script(picker, named, picker.below(6), 4)
                if is_script(named, script):
                    text = script_text(named, script)
                    self.assertEqual(text, slow_script_text(script))
                    self.assertEqual(read_script(named, text), script)
            self.assertEqual(script_text(named, ()), "")
            self.assertEqual(read_script(named, ""), ())

    def test_changed_texts(self):
        picker = Picker(41)
        rows = [
            (1, "p0010110p0111000"), (2, "g010110?01[/k01]"), (2, "?10[s01?01[u10/]/p1000111]"), (2, "k01u10s01p1101010"),
            (3, "?20[?12[k02/]u12/g201010]"), (3, "p2000000?01[/?02[/?12[/?21[/]]]]"),
        ]
        for named, text in rows:
            self.assertEqual(slow_script_text(read_script(named, text)), text)
            for changed in changed_texts(picker, text, "pgksu?[]/0123", 1):
                self.check(named, changed, whole_script, begins_script, read_script)

    def test_all_signs_at_each_place(self):
        rows = [(1, "p0010110"), (2, "g010110?01[/k01]s10"), (3, "?20[?12[?01[?02[u21/]/]/]/]p2")]
        for named, text in rows:
            self.check_all_signs(named, text, whole_script, begins_script, read_script)

    def test_all_signs_behind_thirty(self):
        for named, text in ((1, "p0101010" * 30), (3, "?01[/]" * 30), (2, "k01" * 29 + "?01[/]")):
            for sign in ALL_SIGNS:
                self.refused_at(read_script, named, text + sign, len(text))
        for sign in ALL_SIGNS:
            if sign != "/":
                self.refused_at(read_script, 2, "?01[" + "k01" * 29 + sign, 91)
            if sign != "]":
                self.refused_at(read_script, 2, "?01[/" + "k01" * 29 + sign, 92)

    def test_all_short_texts(self):
        for many in range(4):
            for signs in product("k?01]", repeat=many):
                self.check(2, "".join(signs), whole_script, begins_script, read_script)

    def test_where_texts_are_refused(self):
        rows = [
            ("p", 1), ("p0", 2), ("p000000", 7), ("p2000000", 1), ("p0000002", 7), ("p0000000p", 9), ("p00000000", 8), ("x", 0),
            ("g", 1), ("g0", 2), ("g00", 2), ("g01", 3), ("g01000", 6), ("g012000", 3), ("g02", 2), ("k", 1), ("k0", 2), ("k00", 2),
            ("k01k", 4), ("s2", 1), ("u11", 2), ("?", 1), ("?0", 2), ("?00", 2), ("?01", 3), ("?01(", 3), ("?01[", 4), ("?01[]", 4),
            ("?01[/", 5), ("?01[//", 5), ("?01[/]]", 6), ("?01[/]/", 6), ("?01[k01", 7), ("?01[k01]", 7), ("?01[/k01/", 8), ("/", 0),
            ("]", 0), ("[", 0), ("k01]", 3), (" ", 0), ("k01 ", 3), ("k01\n", 3), ("K01", 0), ("0", 0), ("t01", 0), ("?01[x", 4),
        ]
        for text, at in rows:
            self.refused_at(read_script, 2, text, at)

    def test_one_named_one(self):
        for text in ("g", "k", "s", "u", "?", "k01", "?01[/]", "g010000"):
            self.refused_at(read_script, 1, text, 0)
            self.refused_at(read_script, 1, "p0000000" + text, 8)
        self.refused_at(read_script, 1, "p1000000", 1)

    def test_thirty_deeds_and_choices_in_all(self):
        for named, sign, deed in ((1, "p", "p0000000"), (2, "k", "k01"), (3, "?", "?02[/]"), (3, "g", "g210000"), (2, "u", "u01")):
            whole = deed * 30
            self.assertEqual(len(read_script(named, whole)), 30)
            self.refused_at(read_script, named, whole + sign, len(whole))
            self.refused_at(read_script, named, whole + deed, len(whole))
            self.refused_at(read_script, named, whole + "x", len(whole))
        inner = "?01[" + "k01" * 15 + "/" + "k01" * 14 + "]"
        self.assertEqual(len(read_script(2, inner)), 1)
        self.refused_at(read_script, 2, inner + "k", len(inner))
        self.refused_at(read_script, 2, inner[:-1] + "k01]", len(inner) - 1)
        self.refused_at(read_script, 2, "?01[" + "k01" * 30 + "/]", 4 + 29 * 3)
        self.refused_at(read_script, 2, "k01" * 10 + "?01[" + "s01" * 19 + "/u01]", 30 + 4 + 57 + 1)
        self.refused_at(read_script, 2, "?01[" * 4 + "k01" * 27, 16 + 26 * 3)

    def test_depth_of_four_at_most(self):
        for second in (True, False):
            text = slow_script_text(deep_script(4, second))
            self.assertEqual(read_script(2, text), deep_script(4, second))
            self.refused_at(read_script, 2, slow_script_text(deep_script(5, second)), 20 if second else 16)
        self.refused_at(read_script, 2, "?01[?01[?01[?01[k01?", 19)
        self.refused_at(read_script, 3, "?01[/?02[?12[/?01[k01/?", 22)
        self.refused_at(read_script, 2, "?01[?01[?01[?01[/]?01[?", 22)

    def test_wrong_arguments(self):
        for named in (1, 2, 3):
            rows = [(named, InvalidNamed, wrong_nameds()), ((), InvalidScript, wrong_scripts(named))]
            refuse(self, script_text, rows)
            wrong = [value for value in ANYTHING if value != ""] + [0, "p", "k", ()]
            refuse(self, read_script, [rows[0], ("", InvalidText, wrong)])


if __name__ == "__main__":
    unittest.main()
