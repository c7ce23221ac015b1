"""Runs as texts, promises [112] to [114]."""

import random
import re
import time
import unittest

from causehall.errors import NoNumber, NoRow, NoText
from causehall.runtext import first_false, read_run, run_text
from tests.models import HallModel, NumberModel
from tests.pairs import FORMS, HALL_WORDS, any_deed, do_both, has_form, new_pair, random_pair
from tests.support import BIG, HallCase, no_hall_sizes, odd_but, odd_things

ROW_FORMS = {"sent": "mw", "got": "mmp", "told": "mpmp"}
SMALL = "numbers 2\nsend 0 tea\n  sent 0 tea\ncome 1\n  got 1 0 1\nflow\n  told 0 1 0 1\n  told 1 1 0 1"


def plain_text(kind, members, rows):
    """The text of a run, by its deeds and what happened."""
    lines = [f"{kind} {members}"]
    for deed, happened in rows:
        lines.append(" ".join(map(str, deed)))
        lines += ["  " + " ".join(map(str, row)) for row in happened]
    return "\n".join(lines)


def plain_row(words, forms, members):
    """The tuple that the words of a row write, by these forms, or None."""
    form = forms.get(words[0])
    if form is None or len(words) != len(form) + 1:
        return None
    told = [words[0]]
    for sign, word in zip(form, words[1:]):
        if sign == "w":
            if not re.fullmatch("[a-z]{1,8}", word):
                return None
            told.append(word)
        else:
            if not re.fullmatch("0|[1-9][0-9]{0,29}", word):
                return None
            if (sign in "mo" and int(word) >= members) or (sign == "p" and int(word) == 0):
                return None
            told.append(int(word))
    if "o" in form and told[1] == told[2]:
        return None
    return tuple(told)


def plain_read(text):
    """The kind, the members, and each deed with the rows behind it, all with their numbers; or the number refused."""
    if type(text) is not str:
        return 0
    lines = text.split("\n")
    telling = [at for at, line in enumerate(lines) if line.strip(" ")]
    if not telling:
        return 0
    first = re.fullmatch("(hall|numbers) +([2-5]) *", lines[telling[0]])
    if first is None:
        return telling[0]
    kind, members, deeds = first[1], int(first[2]), []
    for at in telling[1:]:
        ahead, words = len(lines[at]) - len(lines[at].lstrip(" ")), lines[at].split()
        deed, row = plain_row(words, FORMS, members), plain_row(words, ROW_FORMS, members)
        if ahead == 0 and deed is not None:
            deeds.append((at, deed, []))
        elif ahead > 1 and row is not None and deeds:
            deeds[-1][2].append((at, row))
        else:
            return at
    return (kind, members, deeds)


def plain_false(kind, members, deeds):
    """The first row that can't be, by the plain model."""
    model = NumberModel(members) if kind == "numbers" else HallModel(members)
    for at, deed, behind in deeds:
        if (kind == "hall" and deed[0] not in HALL_WORDS) or model.refused(deed) is not None:
            return (at, "refused")
        happened = model.do(deed)
        for place, (number, row) in enumerate(behind):
            if place >= len(happened) or happened[place] != row:
                return (number, "not so")
        if len(happened) > len(behind):
            return (at, "not so")
    return None


def rows_of(kind, members, deeds):
    """Each deed with what happens by it, by the plain model."""
    model = NumberModel(members) if kind == "numbers" else HallModel(members)
    return [(deed, model.do(deed)) for deed in deeds]


def runs(many, seed, steps):
    """Deeds that halls did at random: the kind, the members, and each deed with what happened."""
    for at in range(many):
        kind, members = ("whole", "numbers")[at % 2], 2 + at // 2 % 4
        hall, _ = random_pair(kind, members, seed + at, at % (steps + 1))
        yield "numbers" if at % 2 else "hall", members, rows_of("numbers" if at % 2 else "hall", members, hall.deeds())


class RunCase(HallCase):

    def reads(self, text):
        """The text is read, or refused, as by the plain reader; and walked as by the plain model."""
        wanted = plain_read(text)
        if type(wanted) is int:
            self.same(self.refusal(NoText, read_run, text).at, wanted)
            self.same(self.refusal(NoText, first_false, text).at, wanted)
            return None
        kind, members, deeds = wanted
        self.same(read_run(text), (kind, members, [(deed, [row for _, row in behind]) for _, deed, behind in deeds]))
        false = first_false(text)
        self.same(false, plain_false(kind, members, deeds))
        return false

    def refused_at(self, at, text):
        """The text is refused at this row, by both."""
        self.same(plain_read(text), at)
        self.same(self.refusal(NoText, read_run, text).at, at)
        self.same(self.refusal(NoText, first_false, text=text).at, at)


class Written(RunCase):

    def test_small_runs(self):
        deeds = [("send", 0, "tea"), ("come", 1), ("flow",)]
        self.same(run_text(2, deeds, True), SMALL)
        self.same(run_text(2, deeds), "hall 2\nsend 0 tea\n  sent 0 tea\ncome 1\n  got 1 0 1\nflow")
        self.same(run_text(numbers=True, deeds=tuple(deeds), members=2), SMALL)
        self.same(run_text(deeds=deeds, members=2, numbers=False), run_text(2, deeds))
        for members in range(2, 6):
            self.same(run_text(members, []), f"hall {members}")
            self.same(run_text(members, (), True), f"numbers {members}")

    def test_random_runs(self):
        for kind, members, rows in runs(160, 0, 70):
            deeds = [deed for deed, _ in rows]
            kept = list(deeds)
            text = run_text(members, deeds, kind == "numbers")
            self.same(text, plain_text(kind, members, rows))
            self.same(deeds, kept)
            self.same(read_run(text), (kind, members, rows))
            self.assertIs(first_false(text), None)

    def test_all_deeds_of_a_hall_with_numbers(self):
        deeds = [("call", 1), ("flow",), ("hand", 1, 0), ("flow",), ("again", 0), ("lose", 11), ("double", 12),
                 ("stop", 2), ("ask", 0, 2), ("up", 2)]
        hall, model = new_pair("numbers", 3)
        kept = []
        for deed in deeds:
            if deed[0] in ("lose", "double"):
                deed = (deed[0], model.ways[0][0])
            do_both(hall, model, deed)
            kept.append(deed)
        text = run_text(3, kept, True)
        self.same([line for line in text.split("\n") if line[0] != " "],
                  ["numbers 3", "call 1", "flow", "hand 1 0", "flow", "again 0", *[" ".join(map(str, deed)) for deed in
                   kept[5:7]], "stop 2", "ask 0 2", "up 2"])
        self.same(read_run(text), ("numbers", 3, [(deed, []) for deed in kept]))

    def test_many_rows_behind_a_deed(self):
        deeds = [("send", at % 3, "tea") for at in range(30)] + [("flow",)]
        for numbers in (False, True):
            text = run_text(3, deeds, numbers)
            happened = read_run(text)[2][-1][1]
            self.same(len(happened), 60 + 90 * numbers)
            self.assertIs(first_false(text), None)

    def test_two_hundred_deeds_and_one_more(self):
        for numbers in (False, True):
            deeds = [("ask", 0, 1)] * 200
            self.same(run_text(2, deeds, numbers).count("\n"), 200)
            for thing in [deeds + [("ask", 0, 1)], tuple(deeds) + (None,), [None] * 201, deeds * 2]:
                self.refuses(NoRow, thing, run_text, 2, thing, numbers)
                self.refuses(NoRow, thing, run_text, numbers=numbers, deeds=thing, members=2)

    def test_random_runs_of_two_hundred_deeds(self):
        for at in range(8):
            kind, members = ("whole", "numbers")[at % 2], 2 + at // 2
            chance, (hall, model) = random.Random(at), new_pair(kind, members)
            while len(model.deeds) < 200:
                do_both(hall, model, any_deed(chance, model))
            text = run_text(members, hall.deeds(), at % 2 == 1)
            self.assertIs(self.reads(text), None)
            self.same([deed for deed, _ in read_run(text)[2]], hall.deeds())
            self.same([row for _, happened in read_run(text)[2] for row in happened], hall.history())

    def test_no_number(self):
        for thing in [*no_hall_sizes(), 0, 1, 6, True, "2", None]:
            for deeds in [[], None, [None], [("flow",)] * 201]:
                self.refuses(NoNumber, thing, run_text, thing, deeds)
                self.refuses(NoNumber, thing, run_text, numbers=True, deeds=deeds, members=thing)

    def test_no_list(self):
        for thing in odd_but(lambda thing: type(thing) in (list, tuple) and len(thing) <= 200):
            for numbers in (False, True):
                self.refuses(NoRow, thing, run_text, 2, thing, numbers)

    def test_first_thing_that_is_no_deed(self):
        for thing in odd_things():
            for deeds in [[thing], [("send", 0, "a"), thing], [("flow",), ("flow",), thing, thing, None], (thing,)]:
                found = self.refusal(NoRow, run_text, 2, deeds).found
                self.same((type(found), len(found)), (tuple, 2))
                at = next(at for at, deed in enumerate(deeds) if not has_form(deed, 2))
                self.same(found[0], at)
                self.assertIs(found[1], deeds[at])

    def test_first_deed_that_is_refused(self):
        for numbers, deeds, at in [
            (False, [("come", 1)], 0), (False, [("send", 0, "a"), ("come", 1), ("come", 1)], 2),
            (False, [("send", 0, "a")] * 31, 30), (True, [("send", 0, "a")] * 31, 30),
            (False, [("flow",), ("call", 0)], 1), (False, [("again", 0), None], 0), (False, [("stop", 1)], 0),
            (False, [("hand", 0, 1)], 0), (False, [("flow",), ("flow",), ("up", 0)], 2),
            (True, [("up", 1)], 0), (True, [("stop", 1), ("send", 1, "a")], 1), (True, [("stop", 1), ("stop", 1)], 1),
            (True, [("again", 1)], 0), (True, [("hand", 0, 1), ("again", 0)], 1), (True, [("send", 2, "a")], 0),
            (True, [("ask", 0, 1), ("lose", 2)], 1), (True, [("ask", 1, 1)], 0), (False, [("double", 0)], 0),
        ]:
            found = self.refusal(NoRow, run_text, 2, deeds, numbers).found
            self.same(found, (at, deeds[at]))
            self.assertIs(found[1], deeds[at])

    def test_random_deeds_that_are_refused(self):
        refused = 0
        for at in range(80):
            chance, (hall, model) = random.Random(at), new_pair(("whole", "numbers")[at % 2], 2 + at // 2 % 4)
            for _ in range(50):
                deed, deeds = any_deed(chance, model), hall.deeds()
                if not do_both(hall, model, deed):
                    refusal = self.refusal(NoRow, run_text, hall.members(), [*deeds, deed, None], at % 2 == 1)
                    self.same(refusal.found, (len(deeds), deed))
                    refused += 1
        self.assertGreater(refused, 200)


class Read(RunCase):

    def test_whatever_they_say(self):
        text = "hall 5\nsend 4 a\n  told 0 9 4 8\n  got 4 4 7\n  sent 3 zz\nup 4\ncome 0\nhand 0 4\nlose " + "9" * 30
        self.same(read_run(text), ("hall", 5, [
            (("send", 4, "a"), [("told", 0, 9, 4, 8), ("got", 4, 4, 7), ("sent", 3, "zz")]), (("up", 4), []),
            (("come", 0), []), (("hand", 0, 4), []), (("lose", BIG), [])]))
        self.same(read_run(text=text), read_run(text))

    def test_blanks_and_empty_rows(self):
        wanted = read_run(SMALL)
        lines = SMALL.split("\n")
        for more in ["", " ", "  ", "     "]:
            for at in range(len(lines) + 1):
                text = "\n".join(lines[:at] + [more] * 2 + lines[at:])
                self.same(read_run(text), wanted)
                self.assertIs(first_false(text), None)
            for at in range(len(lines)):
                text = "\n".join(lines[:at] + [lines[at] + more] + lines[at + 1:])
                self.same(read_run(text), wanted)
                ahead = more + lines[at] if lines[at][0] == " " else lines[at]
                spread = ahead[:2] + ahead[2:].replace(" ", " " + more)
                self.same(read_run("\n".join(lines[:at] + [spread] + lines[at + 1:])), wanted)
        self.same(read_run("\n \n\nhall   2  \n\n"), ("hall", 2, []))

    def test_no_text(self):
        for thing in odd_things():
            wanted = plain_read(thing)
            self.assertIs(type(wanted), int)
            self.refused_at(wanted, thing)
        for thing in odd_but(lambda thing: type(thing) is str):
            self.refused_at(0, thing)
        for text in ["", " ", "\n", "\n\n\n", "   \n  \n", " " * 4000, "\n" * 4000]:
            self.refused_at(0, text)

    def test_first_row(self):
        for row in ["hall", "hall 1", "hall 6", "hall 02", "hall 2 2", "hall two", "Hall 2", "halls 2", " hall 2",
                    "  hall 2", "numbers", "number 2", "numbers 0", "numbers 10", "numbers +2", "flow", "2 hall",
                    "hall2", "hall 2,", "  sent 0 a", "send 0 a", "hall " + "2" * 31, "hall -2", "hall 2.0",
                    "numbers 00002"]:
            self.refused_at(0, row)
            self.refused_at(2, f"\n  \n{row}\nflow")
        for row in ["hall 2", "hall 5", "numbers 2", "numbers 5", "hall  3", "numbers   4  "]:
            self.assertIs(self.reads(row), None)
            self.refused_at(1, f"{row}\n{row}")
            self.refused_at(3, f"{row}\nflow\n\nhall 2")
            self.refused_at(3, f"{row}\nflow\n\n  numbers 2")

    def test_history_row_ahead_of_all_deeds(self):
        for row in ["  sent 0 a", "  got 0 1 1", "  told 0 1 1 1", "    sent 0 a"]:
            self.refused_at(2, f"hall 2\n\n{row}\nflow")
            self.refused_at(0, f"{row}\nhall 2")
        self.same(read_run("hall 2\nflow\n  sent 0 a"), ("hall", 2, [(("flow",), [("sent", 0, "a")])]))

    def test_each_row_spoilt_at_each_part(self):
        rows = ["send 0 tea", "come 12", "lose 0", "double 3", "ask 1 0", "flow", "call 2", "hand 2 0", "again 1",
                "stop 0", "up 2", "  sent 0 tea", "  got 1 0 3", "  told 2 7 0 3"]
        others = ["", "0", "1", "2", "3", "5", "00", "01", "012", "-1", "+1", "1.0", "x", "Tea", "te_a", "abcdefgh",
                  "abcdefghi", "tea1", "1" * 30, "1" * 31, "0" * 30, "9" * 30, "True", "()", "sent", "send", "~", "a b"]
        refused = 0
        for kind in ("hall 3", "numbers 3"):
            for row in rows:
                words = row.split()
                for at in range(len(words)):
                    for other in [*others, words[at] + " 0", words[at] + words[at], words[at][1:]]:
                        spoilt = row[:len(row) - len(row.lstrip())] + " ".join(words[:at] + [other] + words[at + 1:])
                        text = f"{kind}\nflow\n{spoilt}\nflow"
                        self.reads(text)
                        refused += type(plain_read(text)) is int
        self.assertGreater(refused, 1200)

    def test_blanks_ahead(self):
        for row in ["flow", "send 0 tea", "up 1"]:
            for ahead in [" ", "  ", "   "]:
                self.refused_at(2, f"hall 2\nflow\n{ahead}{row}")
        for row in ["sent 0 tea", "got 1 0 3", "told 1 1 0 1"]:
            for ahead in ["", " "]:
                self.refused_at(2, f"hall 2\nflow\n{ahead}{row}")
            for ahead in ["  ", "   ", " " * 30]:
                self.reads(f"hall 2\nflow\n{ahead}{row}")

    def test_bounds_of_each_number(self):
        for members in range(2, 6):
            for row in ["send {} a", "ask 0 {}", "ask {} 0", "call {}", "hand {} 0", "hand 0 {}", "again {}", "stop {}",
                        "up {}", "come {}", "lose {}", "double {}", "  sent {} a", "  got {} 0 1", "  got 0 {} 1",
                        "  got 0 1 {}", "  told {} 1 0 1", "  told 0 {} 0 1", "  told 0 1 {} 1", "  told 0 1 0 {}"]:
                for number in [0, 1, members - 1, members, 9, 10 ** 29, 10 ** 30 - 1, 10 ** 30]:
                    self.reads(f"numbers {members}\nflow\n{row.format(number)}")
        self.refused_at(1, "hall 2\nask 1 1")
        self.refused_at(1, "hall 2\nhand 0 0")
        self.refused_at(2, "hall 2\nflow\n  got 0 1 0")
        self.refused_at(2, "hall 2\nflow\n  told 0 0 1 1")
        self.refused_at(1, "hall 2\ncome " + "1" * 31)
        self.same(read_run("hall 2\ncome " + "1" * 30)[2], [(("come", int("1" * 30)), [])])

    def test_first_of_several(self):
        self.refused_at(1, "hall 2\n x\n  sent 0 a\nhall 2")
        self.refused_at(3, "hall 2\nflow\n\n  sent 0\nhall 2\n x")
        self.refused_at(1, "\nhall\nhall 2\nx")

    def test_told_things_are_the_askers_own(self):
        kept = read_run(SMALL)
        told = read_run(SMALL)
        told[2][0][1].append("more")
        told[2].pop()
        self.same(read_run(SMALL), kept)


class Walked(RunCase):

    def test_small_ones(self):
        self.assertIs(first_false(SMALL), None)
        for text, wanted in [
            ("hall 2\ncome 1", (1, "refused")), ("hall 2\n\nflow\n\ncall 0", (4, "refused")),
            ("numbers 2\nsend 0 a", (1, "not so")), ("numbers 2\n\nsend 0 a\n\n  sent 0 b", (4, "not so")),
            ("numbers 2\nsend 0 a\n  sent 0 a\n\n  sent 0 a", (4, "not so")),
            ("hall 2\nflow\n  got 1 0 1", (2, "not so")),
            ("hall 2\nsend 0 a\n  sent 0 a\nsend 1 b\n\nflow\n  sent 1 b", (3, "not so")),
            ("hall 2\nsend 0 a\n  sent 0 a\ncome 1\n  got 1 0 1\ncome 1\n  got 1 0 1", (5, "refused")),
        ]:
            self.same(first_false(text), wanted)
            self.same(first_false(text=text), wanted)
            self.same(self.reads(text), wanted)

    def test_number_deeds_are_refused_in_a_plain_hall(self):
        for deed in ["call 0", "hand 0 1", "again 0", "stop 1", "up 1"]:
            self.same(first_false(f"hall 2\nflow\n{deed}"), (2, "refused"))
        self.assertIs(first_false("numbers 2\nflow\nstop 1\nup 1\nagain 0\nhand 0 1\ncall 0"), None)

    def test_rows_that_lack_and_rows_too_many(self):
        deeds = [("send", 0, "a"), ("send", 0, "b"), ("flow",), ("flow",)]
        lines = run_text(3, deeds, True).split("\n")
        flow = lines.index("flow")
        for less in range(1, len(lines) - flow - 1):
            text = "\n".join(lines[:-1 - less] + [lines[-1]])
            self.same(first_false(text), (flow, "not so"))
        for more in ["  sent 0 a", "  told 0 3 0 1"]:
            self.same(first_false("\n".join([*lines[:-1], "", more, lines[-1]])), (len(lines), "not so"))
            self.same(first_false("\n".join([*lines, more])), (len(lines), "not so"))

    def test_each_row_out_in_twice_exchanged_changed(self):
        words, whole = {}, 0
        for kind, members, rows in runs(60, 700, 45):
            lines = plain_text(kind, members, rows).split("\n")
            chance = random.Random(len(lines))
            for at in range(1, len(lines)):
                other = chance.randrange(1, len(lines))
                turned = list(lines)
                turned[at], turned[other] = turned[other], turned[at]
                for spoilt in [lines[:at] + lines[at + 1:], lines[:at] + [lines[at], ""] + lines[at:], turned,
                               lines[:at] + [self.another(chance, members)] + lines[at:],
                               lines[:at] + [self.changed(chance, lines[at])] + lines[at + 1:]]:
                    false = self.reads("\n".join(spoilt))
                    word = None if false is None else false[1]
                    words[word] = words.get(word, 0) + 1
                    whole += 1
        self.assertGreater(whole, 4000)
        self.assertTrue({None, "refused", "not so"} <= set(words), words)
        self.assertGreater(words["refused"], 100)
        self.assertGreater(words["not so"], 1000)

    def another(self, chance, members):
        """Some row of right form."""
        one, other = chance.sample(range(members), 2)
        return chance.choice([f"send {one} tea", f"come {chance.randrange(20)}", "flow", f"ask {one} {other}",
                              f"call {one}", f"up {one}", f"  got {one} {other} 1", f"  told {one} 1 {other} 1",
                              f"  sent {one} a"])

    def changed(self, chance, line):
        """The row with one of its figures changed, or one of its letters."""
        at = chance.choice([at for at, sign in enumerate(line) if sign != " "])
        return line[:at] + (chance.choice("0123") if line[at].isdigit() else chance.choice("aosup")) + line[at + 1:]


class Times(RunCase):

    def test_two_hundred_deeds_written_read_and_walked(self):
        for numbers in (False, True):
            deeds = [("send", at % 5, "tea") for at in range(30)]
            deeds += [("ask", at % 5, (at + 1) % 5) for at in range(168)] + [("flow",), ("flow",)]
            start = time.process_time()
            text = run_text(5, deeds, numbers)
            self.same(len(read_run(text)[2]), 200)
            self.assertIs(first_false(text), None)
            self.assertLess(time.process_time() - start, 20)


if __name__ == "__main__":
    unittest.main()
