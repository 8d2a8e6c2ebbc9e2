import inspect
import random
import re
import unittest

from ballotin.errors import BadText, BallotError, NoPerson, NothingLeft
from ballotin.house import House
from ballotin.minutes import read_back, written
from helper import LOT_1, Checks, do, done_again, house_of, roll_of, seen, some_life, some_row, stands

NAME = "[a-z]{1,8}"
ROUND = "(?: lot [1-9][0-9]*| vote [1-9][0-9]* [1-9][0-9]* [a-z]+)"
LINE = re.compile(
    f"(?:enroll|move|draw) {NAME} {NAME}|(?:strike|dissolve|drop|poll|shut) {NAME}|league {NAME}(?: {NAME})*"
    f"|lay {NAME}{ROUND}*|begin {NAME} {NAME} {NAME}"
)
TEXT = """enroll dora red
enroll abel blue
enroll cora red
strike abel
enroll abel gray
move dora blue
league ours red gray red
league none
league gone red
dissolve gone
lay way lot 3 vote 2 2 council vote 2 2 stay vote 1 2 bench
lay lone
lay old lot 60 vote 60 500 bench
drop old
begin s way ours
begin t way none
shut t
draw s abel
draw s dora
draw s cora
poll s"""
SIGNS = "a z0195 \nlE_+-~"


def deed_in(line):
    """The deed that a line of the right form tells, as a house tells it."""
    words = line.split(" ")
    if words[0] == "league":
        return ("league", words[1], tuple(words[2:]))
    if words[0] == "lay":
        row = []
        for found in re.findall(ROUND, line):
            row.append(tuple(int(word) if word.isdigit() else word for word in found.split()))
        return ("lay", words[1], tuple(row))
    return tuple(words)


def read_by_form(text):
    """The house of a text, by the form of its lines; None where it is refused."""
    house = House()
    for line in text.split("\n") if text else []:
        if not LINE.fullmatch(line):
            return None
        try:
            do(house, deed_in(line))
        except BallotError:
            return None
    return house


class Minutes(Checks):
    def assert_read(self, text):
        """The text is read to the house that it tells, or refused where it tells none; tells which."""
        wanted = read_by_form(text)
        if wanted is None:
            self.assert_refused(BadText, read_back, text)
            return False
        found = read_back(text)
        self.assertEqual(seen(found), seen(wanted))
        self.assertEqual(written(found), text)
        return True


class Written(Minutes):
    def test_arguments(self):
        self.assertEqual(list(inspect.signature(written).parameters), ["house"])
        self.assertEqual(list(inspect.signature(read_back).parameters), ["text"])

    def test_each_deed(self):
        house = House()
        self.assertEqual(written(house), "")
        for line in TEXT.split("\n"):
            do(house, deed_in(line))
        self.assertEqual(written(house), TEXT)

    def test_the_deeds_that_count_alone(self):
        house = house_of(["anna"], ["anna"], [LOT_1])
        wanted = "enroll anna good\nleague ours good\nlay way lot 1"
        self.assertEqual(written(house), wanted)
        house.drop("way")
        self.assertEqual(written(house), wanted + "\ndrop way")
        house.undo()
        self.assertEqual(written(house), wanted)
        self.assert_refused(NoPerson, house.strike, "bert")
        self.assertEqual(written(house), wanted)
        self.assertEqual(house.redo(), ("drop", "way"))
        for _ in range(4):
            house.undo()
        self.assertEqual(written(house), "")

    def test_clans_as_handed_in(self):
        house = House()
        house.league("ours", ["red", "blue", "red", "red"])
        house.league("ours", [])
        self.assertEqual(written(house), "league ours red blue red red\nleague ours")

    def test_a_house_is_not_changed(self):
        house, _ = some_life(3, 100)
        house.undo()
        before = seen(house)
        self.assertEqual(written(house), written(house))
        self.assertEqual(seen(house), before)


class ReadBack(Minutes):
    def test_nothing(self):
        house = read_back("")
        self.assertIs(type(house), House)
        self.assertEqual(stands(house), stands(House()))
        self.assert_refused(NothingLeft, house.undo)
        self.assert_refused(NothingLeft, house.redo)

    def test_each_deed(self):
        self.assertTrue(self.assert_read(TEXT))
        house = read_back(TEXT)
        self.assertEqual(house.story("s"), [["dora", "cora", "abel"], ["cora", "abel"]])

    def test_lives(self):
        for seed in range(12):
            house, stood = some_life(seed, 300)
            for _ in range(5):
                house.undo()
                text = written(house)
                self.assertTrue(self.assert_read(text))
                found = read_back(text)
                self.assertEqual(stands(found), stands(house))
                self.assertEqual(done_again(found), [])
            while found.deeds():
                found.undo()
                self.assertEqual(stands(found), stood[len(found.deeds())])

    def test_large_houses(self):
        source, folk = random.Random(60), roll_of(60)
        house = house_of(folk, folk[::3], some_row(source, 60, 20))
        house.begin("s", "way", "ours")
        while house.due("s") != "done":
            if house.due("s") == "poll":
                house.poll("s")
            else:
                house.draw("s", source.choice(house.waiting("s")))
        found = read_back(written(house))
        self.assertEqual(stands(found), stands(house))
        self.assertEqual(found.undo(), house.undo())
        self.assertEqual(seen(found), seen(house))

    def test_houses_read_back_are_apart(self):
        one, other = read_back(TEXT), read_back(TEXT)
        one.strike("dora")
        self.assertEqual(written(other), TEXT)
        self.assertEqual(len(other.people()), 3)


class Spoilt(Minutes):
    def test_one_sign(self):
        texts = [TEXT, written(some_life(1, 60)[0])]
        held = refused = 0
        for text in texts:
            for at in range(len(text) + 1):
                spoilt = [text[:at] + text[at + 1:]]
                spoilt += [text[:at] + sign + text[at:] for sign in SIGNS]
                spoilt += [text[:at] + sign + text[at + 1:] for sign in SIGNS]
                for one in spoilt:
                    if self.assert_read(one):
                        held += 1
                    else:
                        refused += 1
        # Some are other texts of the right form; most are not.
        self.assertLess(100, held)
        self.assertLess(held, refused)

    def test_one_line(self):
        lines = TEXT.split("\n")
        others = lines + ["", " ", "undo", "redo", "twin", "people", "enroll", "lay", "strike nobody", "put a b"]
        for at in range(len(lines) + 1):
            self.assert_read("\n".join(lines[:at] + lines[at + 1:]))
            for other in others:
                self.assert_read("\n".join(lines[:at] + [other] + lines[at:]))
                self.assert_read("\n".join(lines[:at] + [other] + lines[at + 1:]))

    def test_a_deed_that_is_refused_where_it_stands(self):
        for text in ("strike anna", "enroll anna a\nenroll anna b", "move anna a", "dissolve ours", "drop way",
                     "poll s", "draw s anna", "shut s", "enroll anna a\nlay w lot 1\nbegin s w ours",
                     "enroll anna a\nleague ours\nbegin s w ours", "league ours\nlay w lot 1\nbegin s w ours",
                     "enroll anna a\nleague ours\nlay w lot 2\nbegin s w ours", "lay w lot 61",
                     "lay w vote 1 501 bench", "lay w" + " lot 1" * 21,
                     "enroll anna a\nleague ours\nlay w lot 1\nbegin s w ours\npoll s",
                     "enroll anna a\nstrike anna\nstrike anna"):
            self.assert_refused(BadText, read_back, text)
            self.assertFalse(self.assert_read(text))
        self.assertTrue(self.assert_read("lay w" + " lot 1" * 20))

    def test_numbers(self):
        for good in ("lot 1", "lot 9", "lot 10", "lot 60", "vote 1 1 stay", "vote 60 500 council", "vote 10 100 bench"):
            self.assertTrue(self.assert_read("lay w " + good))
        many = "1" * 5000
        for bad in ("01", "0", "00", "+1", "-1", "1_0", "1.0", "1e0", "0x1", "", "a", "1 ", " 1", "1\n", "61", "100",
                    "1000", many, "0" + many, "1a", "a1", "I", "one"):
            for line in (f"lay w lot {bad}", f"lay w vote {bad} 1 stay", f"lay w lot 1 lot {bad}"):
                self.assert_refused(BadText, read_back, line)
        for sign in set(map(chr, range(32, 127))) - set("0123456789"):
            for bad in (sign, sign + "1", "1" + sign, "1" + sign + "1"):
                self.assert_refused(BadText, read_back, f"lay w lot {bad}")
                self.assert_refused(BadText, read_back, f"lay w vote 1 {bad} stay")
        for bad in ("01", "0", "+1", "-1", "1_0", "", "501", "1000", many, "a"):
            self.assert_refused(BadText, read_back, f"lay w vote 1 {bad} stay")

    def test_rounds(self):
        for bad in ("lot", "vote", "vote 1", "vote 1 1", "lot 1 1", "lot 1 vote 1 1", "vote 1 1 noise", "vote 1 1 Stay",
                    "coin 1", "1", "lot lot", "lot 1 stay", "vote 1 1 stay bench", "LOT 1", "lot  1", "lot 1  lot 1",
                    "vote 1 1 lot 1"):
            self.assert_refused(BadText, read_back, "lay w " + bad)
            self.assert_refused(BadText, read_back, "lay w lot 1 " + bad)

    def test_lines(self):
        for bad in ("\n", " ", "\n\n", TEXT + "\n", "\n" + TEXT, TEXT + "\n\n", TEXT.replace("\n", "\n\n"), TEXT + " ",
                    " " + TEXT, TEXT.replace(" ", "  "), TEXT.replace("\n", " \n"), TEXT.replace("\n", "\n "),
                    TEXT.replace("\n", " "), TEXT.upper(), TEXT.title()):
            self.assert_refused(BadText, read_back, bad)
        for bad in ("enroll", "enroll anna", "enroll anna a b", "enroll Anna a", "enroll anna A", "enroll annaannaa a",
                    "enroll anna a1", "league", "league Ours", "league ours Red", "league ours ", "league ours  red",
                    "lay", "lay W", "lay w ", "lay  w", "enroll anna a\nstrike", "enroll anna a\nstrike anna a",
                    "enroll anna a\nmove anna", "enroll anna a\nmove anna a b", "undo", "deeds", "twin", "head s",
                    "house", "begin", "begin s w", "begin s w ours x"):
            self.assert_refused(BadText, read_back, bad)

    def test_deeds_with_a_name_too_many(self):
        lines = TEXT.split("\n")
        for at, line in enumerate(lines):
            for other in (line + " red", line.rsplit(" ", 1)[0], line + " ", line.replace(" ", "  ", 1)):
                self.assert_read("\n".join(lines[:at] + [other]))


if __name__ == "__main__":
    unittest.main()
