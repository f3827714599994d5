import random
import re
import unittest

from oldaddress.desks import Desk
from oldaddress.errors import BadLand
from oldaddress.histories import History
from oldaddress.lands import Land
from oldaddress.promises import keeps
from oldaddress.refusals import BadText, BadThing, WouldBreak
from oldaddress.streets import Street
from oldaddress.texts import read, write
from tests.asking import Asking, example
from tests.naive import Naive, can, junk, promises, random_histories

NUMBER = "(0|[1-9][0-9]*)"
NAME = "([a-z][a-z0-9]{0,7})"
FORMS = {
    "make": f"make {NAME} {NUMBER}", "grow": f"grow {NAME} {NUMBER}", "move": f"move {NAME} {NAME}",
    "swap": f"swap {NAME} {NAME}", "cut": f"cut {NAME} {NUMBER} {NAME}",
    "split": f"split {NAME} {NUMBER} {NAME} {NAME}", "pour": f"pour {NAME} {NAME}",
    "drop": f"drop {NAME} {NUMBER} {NUMBER}", "end": f"end {NAME}", "wait": f"wait {NUMBER}",
}
PROMISE = f"(watch|hold) (all|first|most) (just|{NUMBER}) (ever|{NUMBER})"


def deed_of(naive, line):
    """The deed that a line tells, if it can be done."""
    found = re.fullmatch(FORMS.get(line.split(" ")[0], "nothing"), line, re.ASCII)
    if not found:
        return None
    parts = [int(part) if part.isdecimal() else part for part in found.groups()]
    deed = (line.split(" ")[0], *parts)
    addresses = [part for part in parts if isinstance(part, str)]
    positive = [part for part in parts if isinstance(part, int)][-1:]
    if len(set(addresses)) < len(addresses) or not set(addresses) <= set(naive.addresses) or 0 in positive:
        return None
    return deed if can(naive.rows[-1], naive.most, deed) else None


def naive_read(text):
    """The triple (head, naive history, promises), or the number of the first line that is wrong."""
    lines = text.split("\n")
    last, lines = lines[-1], lines[:-1]
    if not lines or lines[0] not in ("land", "history", "desk"):
        return 1
    if len(lines) < 2 or not re.fullmatch(f"addresses( {NAME})+", lines[1], re.ASCII):
        return 2
    names = lines[1].split(" ")[1:]
    if len(names) < 2 or len(set(names)) < len(names):
        return 2
    if len(lines) < 3 or not re.fullmatch("most [1-9][0-9]*", lines[2], re.ASCII):
        return 3
    naive, watched = Naive(names, int(lines[2][5:]), []), []
    for number, line in enumerate(lines[3:], start=4):
        deed = deed_of(naive, line) if lines[0] != "land" and not watched else None
        found = re.fullmatch(PROMISE, line, re.ASCII) if lines[0] == "desk" else None
        if deed is not None:
            naive = naive.then(deed)
        elif found:
            word, policy, width, _, life, _ = found.groups()
            promise = (policy, None if width == "just" else int(width), None if life == "ever" else int(life))
            if promise in [told for told, is_held in watched] or promise[1] == 0:
                return number
            if word == "hold" and not naive.keeps(promise):
                return number
            watched.append((promise, word == "hold"))
        else:
            return number
    return len(lines) + 1 if last else (lines[0], naive, watched)


def random_desks(seed, count):
    rng = random.Random(seed)
    for naive, history in random_histories(seed, count, 6):
        desk = Desk(history.land())
        for deed in history.deeds():
            desk.give(("do", deed))
        for promise in rng.sample(promises(), rng.randint(0, 5)):
            desk.give(("hold" if keeps(history, promise) and rng.random() < 0.6 else "watch", promise))
        yield naive, desk


def texts(seed, count):
    """Texts of all three kinds, with the things that have them."""
    for naive, desk in random_desks(seed, count):
        for thing in (desk.history().land(), desk.history(), desk):
            yield naive, thing, write(thing)


class Writing(Asking):
    def test_example(self):
        desk = Desk(Land(["a", "b"], 9))
        desk.give(("do", ("make", "a", 1)))
        desk.give(("hold", ("all", None, 1)))
        desk.give(("do", ("move", "a", "b")))
        with self.assertRaises(WouldBreak):
            desk.give(("do", ("make", "a", 1)))
        self.assertEqual(desk.days_for(("make", "a", 1)), 2)
        self.assertEqual(desk.tells("a", ("all", None, 1)), ("b",))
        text = "desk\naddresses a b\nmost 9\nmake a 1\nmove a b\nhold all just 1\n"
        self.same(write(desk), text)
        self.refused(BadText, 7, read, text + "make a 1\n")
        self.refused(BadText, 2, read, "land\naddresses a\n")
        self.refused(BadText, 3, read, "land\naddresses a b\n")

    def test_lines(self):
        land = Land(["b", "a1", "zzzzzzzz"], 10 ** 15)
        self.same(write(land), "land\naddresses b a1 zzzzzzzz\nmost 1000000000000000\n")
        deeds = [("make", "b", 7), ("grow", "b", 2), ("move", "b", "a1"), ("make", "b", 1), ("swap", "b", "a1"),
                 ("cut", "b", 3, "zzzzzzzz"), ("end", "a1"), ("pour", "zzzzzzzz", "b"), ("drop", "b", 0, 4),
                 ("split", "b", 1, "a1", "zzzzzzzz"), ("wait", 10 ** 12)]
        lines = ["make b 7", "grow b 2", "move b a1", "make b 1", "swap b a1", "cut b 3 zzzzzzzz", "end a1",
                 "pour zzzzzzzz b", "drop b 0 4", "split b 1 a1 zzzzzzzz", "wait 1000000000000"]
        history = History(land, deeds)
        head = "addresses b a1 zzzzzzzz\nmost 1000000000000000\n" + "".join(line + "\n" for line in lines)
        self.same(write(thing=history), "history\n" + head)
        desk = Desk(land)
        for deed in deeds:
            desk.give(("do", deed))
        for order in (("watch", ("most", 3, None)), ("hold", ("first", None, 0)), ("watch", ("all", None, 10 ** 15))):
            desk.give(order)
        desk.undo()
        ends = "watch most 3 ever\nhold first just 0\n"
        self.same(write(desk), "desk\n" + head + ends)
        self.assertTrue(read(text="desk\n" + head + ends) == desk)

    def test_equal_things_have_one_text(self):
        one, other = Desk(Land(["a", "b"], 9)), Desk(Land(("a", "b"), 9))
        one.give(("watch", ("all", None, 1)))
        one.give(["do", ["make", "a", 1]])
        one.give(("hold", ["all", None, 1]))
        other.give(("do", ("make", "a", 1)))
        other.give(("hold", ("first", 2, 1)))
        other.give(("leave", ("first", 2, 1)))
        other.give(("hold", ("all", None, 1)))
        self.assertTrue(one == other)
        self.same(write(one), write(other))
        self.same(write(History(Land(["a", "b"], 9), [["make", "a", 1]])), write(one.history()))
        other.give(("free", ("all", None, 1)))
        self.assertNotEqual(write(one), write(other))

    def test_other_things_have_none(self):
        for thing in junk():
            if not isinstance(thing, (Land, History, Desk)):
                self.refused(BadThing, thing, write, thing)
        street = Street(example(), dict.fromkeys("abc", "n"), {"n": None}, [])
        for thing in (street, BadLand(1), [Land(["a", "b"], 1)], Land):
            self.refused(BadThing, thing, write, thing)


class Reading(Asking):
    def test_written_and_read(self):
        for naive, thing, text in texts(2210, 50):
            told = read(text)
            self.assertIs(type(told), type(thing))
            self.assertTrue(told == thing)
            self.same(write(told), text)
            if isinstance(thing, Desk):
                self.check_desk(thing, told)

    def check_desk(self, desk, told):
        orders = [("do", deed) for deed in desk.history().deeds()]
        orders += [("hold" if is_held else "watch", promise) for promise, is_held, _ in desk.watched()]
        self.same(told.orders(), orders)
        self.same(told.watched(), desk.watched())
        self.assertEqual(told.count(), len(orders))
        self.assertIsNone(told.redo())
        for order in orders[::-1]:
            self.same(told.undo(), order)

    def check(self, text):
        expected = naive_read(text)
        if isinstance(expected, int):
            self.refused(BadText, expected, read, text)
            return expected
        told = read(text)
        head, naive, watched = expected
        self.assertIs(type(told), {"land": Land, "history": History, "desk": Desk}[head])
        self.same(write(told), text)
        history = {"land": lambda: History(told, []), "history": lambda: told, "desk": lambda: told.history()}[head]()
        self.same(history.deeds(), naive.deeds)
        self.assertTrue(history.land() == Land(naive.addresses, naive.most))
        if head == "desk":
            self.same([pair[:2] for pair in told.watched()], watched)
        return 0

    def test_cut_short_at_each_sign(self):
        for naive, thing, text in texts(2211, 8):
            for at in range(len(text) + 1):
                told = self.check(text[:at])
                if at < len(text):
                    complete = text[:at].count("\n")
                    whole = text[:at].endswith("\n")
                    self.assertEqual(told, 0 if whole and complete >= 3 else complete + 1)

    def test_bent_at_each_sign(self):
        rng = random.Random(2212)
        lines = set()
        for naive, thing, text in texts(2213, 6):
            for at in range(len(text)):
                for sign in rng.sample(" \n01ab9-+_.~%mj\t\r\u00b2\u0661", 5) + [""]:
                    lines.add(self.check(text[:at] + sign + text[at + 1:]))
                    lines.add(self.check(text[:at] + sign + text[at:]))
        self.assertLessEqual(set(range(9)), lines)

    def test_lines_in_other_places(self):
        rng = random.Random(2214)
        good = 0
        for naive, thing, text in texts(2215, 40):
            lines = text.split("\n")[:-1]
            for _ in range(12):
                bent = list(lines)
                for _ in range(rng.randint(1, 2)):
                    at = rng.randrange(len(bent))
                    word = rng.choice(("drop", "twice", "swap", "head"))
                    if word == "drop" and len(bent) > 1:
                        del bent[at]
                    elif word == "twice":
                        bent.insert(rng.randint(0, len(bent)), bent[at])
                    elif word == "swap":
                        bent[at], bent[-1] = bent[-1], bent[at]
                    else:
                        bent[0] = rng.choice(("land", "history", "desk"))
                good += self.check("".join(line + "\n" for line in bent)) == 0
        self.assertGreater(good, 100)

    def test_what_says_no(self):
        land = "land\naddresses a b\nmost 9\n"
        desk = "desk\naddresses a b\nmost 9\nmake a 1\n"
        for text, line in (
            ("", 1), ("\n", 1), ("land", 1), ("land\n", 2), ("Land\n", 1), (" land\n", 1), ("land \n", 1), ("lands\n", 1),
            ("land\naddresses a a\n", 2), ("land\naddresses a b a\n", 2), ("land\naddresses\n", 2),
            ("land\naddresses a  b\n", 2), ("land\naddresses a B\n", 2), ("land\naddresses a b \n", 2),
            ("land\naddresses a b", 2), ("land\naddresses abcdefghi b\n", 2), ("land\naddress a b\n", 2),
            ("land\naddresses a b\nmost 0\n", 3), ("land\naddresses a b\nmost 09\n", 3),
            ("land\naddresses a b\nmost +9\n", 3), ("land\naddresses a b\nmost -9\n", 3),
            ("land\naddresses a b\nmost 9 \n", 3), ("land\naddresses a b\nmost 1_0\n", 3),
            ("land\naddresses a b\nmost\n", 3), ("land\naddresses a b\nmost 9 9\n", 3),
            ("land\naddresses a b\nmost 9", 3), ("land\naddresses a b\nmost \u0669\n", 3),
            ("land\naddresses a b\nmost \u00b2\n", 3), ("land\naddresses a b\nmost 9.0\n", 3),
            (land + "\n", 4), (land + "make a 1\n", 4), (land + "x", 4), (land + " ", 4),
            (desk + "\n", 5), (desk + "make a 1\n", 5), (desk + "grow a 9\n", 5), (desk + "grow a 08\n", 5),
            (desk + "grow a 0\n", 5), (desk + "grow c 1\n", 5), (desk + "wait 0\n", 5), (desk + "wait -1\n", 5),
            (desk + "cut a 0 b\n", 5), (desk + "swap a a\n", 5), (desk + "fly a\n", 5), (desk + "do\n", 5),
            (desk + "watch all just\n", 5), (desk + "watch all 0 1\n", 5), (desk + "watch all just ever 1\n", 5),
            (desk + "watch last just 1\n", 5), (desk + "watch all None 1\n", 5), (desk + "watch all just -1\n", 5),
            (desk + "watch all just 01\n", 5), (desk + "watch all ever just\n", 5), (desk + "free all just 1\n", 5),
            (desk + "watch all just 1\nhold all just 1\n", 6), (desk + "hold all just 1\nwatch all just 1\n", 6),
            (desk + "watch all just 1\nwatch all just 1\n", 6), (desk + "watch all just 1\nwait 1\n", 6),
            (desk + "end a\nmake a 1\nhold all just 0\n", 7), (desk + "wait 1", 5), (desk + "wait 1\r\n", 5),
            ("history\naddresses a b\nmost 9\nwatch all just 1\n", 4), ("history\naddresses a b\nmost 9\nmake a 9", 4),
            (desk.replace("\n", "\r"), 1), (desk.replace("\n", "\u2028"), 1), (desk + "wait 1\x0bwait 1\n", 5),
        ):
            self.assertEqual(naive_read(text), line, text)
            self.refused(BadText, line, read, text)
        for text in (land, desk, desk + "end a\nmake a 1\nwatch all just 0\n",
                     desk + "hold all just 1\nwatch most 2 ever\nwatch most 2 0\n", desk + "drop a 0 1\nwait 1\n"):
            self.check(text)

    def test_no_strings(self):
        for thing in junk():
            if not isinstance(thing, str):
                self.refused(BadText, 0, read, thing)
            else:
                self.refused(BadText, 1, read, thing)
        for thing in (["land"], b"land\n", Land(["a", "b"], 1)):
            self.refused(BadText, 0, read, thing)

    def test_great_numbers(self):
        great = "9" * 30
        text = f"desk\naddresses a b\nmost {great}\nmake a {great}\nwait {great}\nwatch all {great} {great}\n"
        desk = read(text)
        self.same(write(desk), text)
        self.assertEqual(desk.history().many(), int(great))
        self.refused(BadText, 4, read, text.replace("make a 9", "make a 10"))
        for figures in (17, 18, 19, 36, 37, 128, 4299, 4300, 4301, 9001):
            for first in ("1", "7"):
                number = first + "0" * (figures - 2) + "3"
                text = f"history\naddresses a b\nmost {number}\nmake b {number}\n"
                self.same(write(read(text)), text)
                most = read(text).land().most()
                self.assertEqual(most, int(first) * 10 ** (figures - 1) + 3)
                self.assertEqual(read(text).rows(), {"a": [], "b": [(1, most)]})
                self.refused(BadText, 5, read, text + f"grow b {number}\n")
                self.refused(BadText, 3, read, text.replace("most ", "most 0"))

    def test_six_thousand_signs(self):
        text = "history\naddresses a b\nmost 9\nmake a 1\n" + "move a b\nmove b a\n" * 320
        self.same(write(read(text)), text)
        text = text.replace("history", "desk") + "end a\nmake a 1\n"
        self.same(write(read(text + "watch all just 1\n")), text + "watch all just 1\n")
        self.refused(BadText, 647, read, text + "hold all just 1\n")


if __name__ == "__main__":
    unittest.main()
