"""Section 17: a desk."""

import unittest

from clockslack.aside import aside, fewest_aside
from clockslack.choices import positions
from clockslack.desk import Desk
from clockslack.errors import (
    BadLine, BadOperation, BadStamps, BadTolerance, CellError, NothingToUndo, NoValue, TooMany, Unexplained, Written)
from clockslack.faults import faults
from clockslack.least import least_tolerance
from clockslack.operations import is_log
from clockslack.orders import can_explain, explains
from clockslack.reads import readable
from clockslack.texts import format_fault, format_log
from clockslack.values import values_of
from checks import Checked
from samples import EARLY, GREATEST_TOLERANCE, LOG, LOST, STAMP, ZERO, deepest_values, odd_values
from search import left_of
from small import Numbers, mixed_logs, settled_logs

WORDS = {"write": 3, "read": 3, "allow": 1, "undo": 0, "log": 0, "least": 0, "fault": 0, "order": 0, "aside": 0,
         "when": 1, "could": 2}
# Words in place of the number 1 that are no integers in decimal.
ONES = ("01", "001", "+1", "--1", "1-", "1.0", "1e0", "0x1", "1_0", "one", "\u0661", "\u00b9", "\uff11", "1\t", "\t1",
        "1\n", "1\r", "1\u00a0", "-", "V", "None", "True", "1,", "\u22121", "-01", "-0", "00", "0" * 21, "1" * 21,
        "-" + "1" * 21, "9" * 5000, "-" + "9" * 19000, "1" + "0" * 20)


def desk_with(log, tolerance=None):
    """Make a desk by saying the operations of a log and a tolerance."""
    desk = Desk()
    for index, operation in enumerate(log):
        assert desk.say(format_log((operation,))) == str(index)
    if tolerance is not None:
        assert desk.say(f"allow {tolerance}") == "ok"
    return desk


class Spoken(Checked):

    def says(self, desk, line, answer):
        found = desk.say(line)
        self.assertIs(found.__class__, str)
        self.assertEqual(found, answer, line)

    def state_of(self, desk):
        return desk.say("log"), desk.say("least"), desk.say("fault"), desk.say("aside")

    def refuse(self, desk, error, told, line):
        """Check that a line raises this error and changes nothing."""
        before = self.state_of(desk)
        self.raises(error, told, desk.say, line=line)
        self.assertEqual(self.state_of(desk), before)


class Examples(Spoken):

    def test_section_17(self):
        desk = Desk()
        self.assertEqual(
            [desk.say("write 1 0 10"), desk.say("read 1 2 4"), desk.say("write 2 6 8"), desk.say("read 1 12 14"),
             desk.say("least"), desk.say("fault")],
            ["0", "1", "2", "3", "2", "crossed 1 2 2 3"])
        self.assertEqual(
            [desk.say("allow 2"), desk.say("order"), desk.say("when 1"), desk.say("could 20 21"), desk.say("aside"),
             desk.say("undo"), desk.say("log")],
            ["ok", "2 0 1 3", "1 1", "1", "-", "ok", "write 1 0 10; read 1 2 4; write 2 6 8; read 1 12 14"])
        self.refuse(desk, Unexplained, {"fault": ("crossed", 1, 2, 2, 3)}, "order")


class Lines(Spoken):

    def test_a_new_desk(self):
        desk = Desk()
        for line, answer in (("log", "-"), ("least", "0"), ("fault", "none"), ("order", "-"), ("aside", "-"),
                             ("could 0 0", "0")):
            self.says(desk, line, answer)
        self.refuse(desk, NothingToUndo, {}, "undo")
        self.refuse(desk, NoValue, {"value": 0}, "when 0")

    def test_a_line_by_name(self):
        desk = Desk()
        self.assertEqual(desk.say(line="write 5 -3 4"), "0")
        self.assertEqual(desk.say(line="log"), "write 5 -3 4")

    def test_desks_are_independent(self):
        one, other = Desk(), Desk()
        one.say("write 1 0 0")
        other.say("write 1 5 5")
        self.says(one, "log", "write 1 0 0")
        self.says(other, "log", "write 1 5 5")

    def test_write_and_read(self):
        desk = Desk()
        for index, line in enumerate(("write 1 0 10", "read 0 -5 -5", "write 1000000000 -1000000000000000 0",
                                      "read 1000000000 0 1000000000000000", "read 7 0 0")):
            self.says(desk, line, str(index))
        self.says(desk, "log", "write 1 0 10; read 0 -5 -5; write 1000000000 -1000000000000000 0; "
                               "read 1000000000 0 1000000000000000; read 7 0 0")

    def test_log_with_one_operation(self):
        self.says(desk_with(LOST), "log", "read 7 0 1")

    def test_least(self):
        for log, answer in ((LOG, "2"), (ZERO, "4"), (EARLY, "3"), (LOST, "none"), (LOG[:3], "0")):
            self.says(desk_with(log), "least", answer)
            self.says(desk_with(log, 9), "least", answer)

    def test_fault(self):
        for log, tolerance, answer in (
                (LOG, 1, "crossed 1 2 2 3"), (LOG, 2, "none"), (ZERO, 3, "late 0 1"), (ZERO, 4, "none"),
                (EARLY, 2, "early 0 1"), (EARLY + LOST, 0, "unwritten 2"), (LOST, GREATEST_TOLERANCE, "unwritten 0")):
            self.says(desk_with(log, tolerance), "fault", answer)

    def test_aside_by_values(self):
        self.says(desk_with(LOST + EARLY), "aside", "1 7")
        self.says(desk_with(LOST + EARLY, 3), "aside", "7")
        self.says(desk_with(EARLY, 3), "aside", "-")
        # By operations it would be 2, 3 and 4.
        log = (("write", 1, 0, 0),) + (("read", 1, 100, 100),) * 5 + tuple(
            ("write", value, 10 * value, 10 * value + 2) for value in (2, 3, 4))
        self.says(desk_with(log), "aside", "1")

    def test_when(self):
        desk = desk_with((("write", 1, 0, 5), ("write", 2, 3, 8), ("read", 0, 1, 2)))
        for line, answer in (("when 0", "0 0"), ("when 1", "1 2"), ("when 2", "1 2")):
            self.says(desk, line, answer)
        for value in (3, -1, 10 ** 19):
            self.refuse(desk, NoValue, {"value": value}, f"when {value}")

    def test_could(self):
        desk = desk_with(LOG, 2)
        for line, answer in (("could 20 21", "1"), ("could 5 9", "0 1 2"), ("could -9 -9", "0")):
            self.says(desk, line, answer)

    def test_allow_and_undo(self):
        desk = desk_with(LOG)
        for line, answer in (("allow 2", "ok"), ("fault", "none"), ("allow 1", "ok"), ("fault", "crossed 1 2 2 3"),
                             ("undo", "ok"), ("fault", "none"), ("undo", "ok"), ("fault", "crossed 1 2 2 3"),
                             ("undo", "ok"), ("log", format_log(LOG[:3]).replace("\n", "; ")), ("least", "0"),
                             ("allow 10000000000000000", "ok"), ("undo", "ok"), ("undo", "ok"), ("undo", "ok"),
                             ("undo", "ok"), ("log", "-")):
            self.says(desk, line, answer)
        self.refuse(desk, NothingToUndo, {}, "undo")

    def test_the_functions_for_the_log_and_the_tolerance(self):
        numbers = Numbers(121)
        for log in list(mixed_logs(122, 60, 9)) + list(settled_logs(123, 60, 9)):
            for tolerance in (0, 2, 4):
                desk = desk_with(log, tolerance)
                self.says(desk, "log", "; ".join(format_log((operation,)) for operation in log))
                least, fault = least_tolerance(log), next(iter(faults(log, tolerance)), None)
                self.says(desk, "least", "none" if least is None else str(least))
                self.says(desk, "fault", "none" if fault is None else format_fault(fault))
                self.check_aside(desk, log, tolerance)
                self.check_explained(desk, log, tolerance, fault, numbers.below(12), numbers.below(5))

    def check_aside(self, desk, log, tolerance):
        answer = desk.say("aside")
        values = () if answer == "-" else tuple(int(word) for word in answer.split(" "))
        self.assertEqual(answer, " ".join(map(str, values)) or "-")
        self.assertEqual(len(values), fewest_aside(log, tolerance))
        self.assertTrue(can_explain(left_of(log, values), tolerance))
        self.assertEqual(values, aside(log, tolerance))

    def check_explained(self, desk, log, tolerance, fault, begin, length):
        """Check the lines that can be answered only if the log can be explained."""
        lines = ["order", f"could {begin} {begin + length}"] + [f"when {value}" for value in values_of(log)]
        if fault is not None:
            for line in lines:
                self.refuse(desk, Unexplained, {"fault": fault}, line)
            return
        order = tuple(int(word) for word in desk.say("order").split(" "))
        self.assertTrue(explains(log, tolerance, order))
        self.says(desk, lines[1], " ".join(map(str, readable(log, tolerance, begin, begin + length))))
        for value in values_of(log):
            self.says(desk, f"when {value}", " ".join(map(str, positions(log, tolerance, value))))


class BadLines(Spoken):

    def refuse_line(self, line):
        for desk in (Desk(), desk_with(LOG, 2)):
            self.refuse(desk, BadLine, {"line": line}, line)

    def test_the_number_of_integers(self):
        for word, count in WORDS.items():
            for number in range(6):
                if number != count:
                    self.refuse_line(" ".join([word] + ["1"] * number))

    def test_words(self):
        for word in ("Write", "READ", "wr", "writes", "allows", "redo", "logs", "at", "help", "tolerance", "-", "0", "",
                     "trade", "quit", "un do", "lo\ng", "\ufeffundo"):
            for count in range(4):
                self.refuse_line(" ".join([word] + ["1"] * count))

    def test_spaces(self):
        for word, count in WORDS.items():
            line = " ".join([word] + ["1"] * count)
            for wrong in (" " + line, line + " ", "  " + line, line + "  ", line + "\n", "\n" + line, line + "\t",
                          line + "\r\n", line + ";", line + "\u00a0"):
                self.refuse_line(wrong)
            if count > 0:
                for blank in ("  ", "\t", "\n", " \t", "\u00a0", "\u2003", "", ",", ", "):
                    self.refuse_line(line.replace(" ", blank))
                    self.refuse_line(line.replace(" ", blank, 1))
        for line in ("", " ", "  ", "\n"):
            self.refuse_line(line)

    def test_integers(self):
        for one in ONES:
            for line in (f"write {one} 1 1", f"write 1 {one} 1", f"write 1 1 {one}", f"read {one} 1 1",
                         f"read 1 {one} 1", f"read 1 1 {one}", f"allow {one}", f"when {one}", f"could {one} 1",
                         f"could 1 {one}"):
                self.refuse_line(line)

    def test_values_that_are_no_line(self):
        for value in odd_values() + deepest_values() + [0, 1, b"undo", ["undo"], ("undo",), {"undo": 0}, "undo " * 4000,
                                                        "\ud800", ("write", 1, 0, 0)]:
            self.refuse_line(value)

    def test_the_very_value_is_told(self):
        line = ["undo"]
        with self.assertRaises(BadLine) as held:
            Desk().say(line)
        self.assertIs(held.exception.line, line)


class OtherErrors(Spoken):

    def test_integers_of_20_digits_are_passed_on(self):
        great = 10 ** 20 - 1
        desk = desk_with(LOG, 2)
        for number in (great, -great):
            self.refuse(desk, BadOperation, {"operation": ("write", number, 0, 1)}, f"write {number} 0 1")
            self.refuse(desk, BadOperation, {"operation": ("read", 1, number, 1)}, f"read 1 {number} 1")
            self.refuse(desk, BadOperation, {"operation": ("read", 1, 0, number)}, f"read 1 0 {number}")
            self.refuse(desk, BadTolerance, {"value": number}, f"allow {number}")
            self.refuse(desk, NoValue, {"value": number}, f"when {number}")
            self.refuse(desk, BadStamps, {"begin": number, "end": 0}, f"could {number} 0")
            self.refuse(desk, BadStamps, {"begin": 0, "end": number}, f"could 0 {number}")
            self.refuse(desk, BadLine, {"line": f"allow {10 * number}"}, f"allow {10 * number}")

    def test_errors_of_write_and_read(self):
        desk = desk_with(LOG)
        self.refuse(desk, BadOperation, {"operation": ("write", 0, 1, 2)}, "write 0 1 2")
        self.refuse(desk, BadOperation, {"operation": ("write", 3, 2, 1)}, "write 3 2 1")
        self.refuse(desk, BadOperation, {"operation": ("read", -1, 1, 2)}, "read -1 1 2")
        self.refuse(desk, BadOperation, {"operation": ("read", 1, 0, STAMP + 1)}, f"read 1 0 {STAMP + 1}")
        self.refuse(desk, BadOperation, {"operation": ("write", 1, 5, 4)}, "write 1 5 4")
        self.refuse(desk, Written, {"value": 2}, "write 2 0 0")

    def test_200_operations_and_one_more(self):
        desk = Desk()
        for index in range(200):
            self.says(desk, "read 0 5 5", str(index))
        for line in ("read 0 5 5", "write 1 0 0"):
            self.refuse(desk, TooMany, {"limit": 200}, line)
        desk.say("undo")
        self.says(desk, "write 1 0 9", "199")
        self.refuse(desk, Written, {"value": 1}, "write 1 0 0")

    def test_errors_of_allow(self):
        desk = desk_with(LOG, 1)
        for number in (-1, GREATEST_TOLERANCE + 1):
            self.refuse(desk, BadTolerance, {"value": number}, f"allow {number}")
        self.says(desk, "fault", "crossed 1 2 2 3")

    def test_unexplained_ahead_of_the_others(self):
        desk = desk_with(LOG, 1)
        for line in ("order", "when 1", "when 9", "when -1", "could 0 1", "could 1 0", f"could 0 {10 ** 18}"):
            self.refuse(desk, Unexplained, {"fault": ("crossed", 1, 2, 2, 3)}, line)
        desk = desk_with(LOG, 2)
        self.refuse(desk, NoValue, {"value": 9}, "when 9")
        self.refuse(desk, BadStamps, {"begin": 1, "end": 0}, "could 1 0")

    def test_a_line_that_raises_leaves_nothing_to_undo(self):
        desk = Desk()
        for line in ("write 0 0 0", "read 1 2 1", "allow -1", "when 3", "could 1 0", "undo", "undo 1", "", "order "):
            with self.assertRaises(CellError):
                desk.say(line)
        self.refuse(desk, NothingToUndo, {}, "undo")

    def test_any_sequence_of_lines(self):
        numbers = Numbers(124)
        for _ in range(20):
            desk = Desk()
            states = [((), 0)]
            for _ in range(30):
                self.step(numbers, desk, states)
                log, tolerance = states[-1]
                self.says(desk, "log", format_log(log).replace("\n", "; "))
                fault = next(iter(faults(log, tolerance)), None)
                self.says(desk, "fault", "none" if fault is None else format_fault(fault))

    def step(self, numbers, desk, states):
        """Say a line that changes something, or one that raises: to a desk, and to the list of its states."""
        log, tolerance = states[-1]
        choice, kind = numbers.below(6), ("write", "read")[numbers.below(2)]
        value, begin, end = numbers.below(6), numbers.below(9) - 3, numbers.below(9) - 1
        longer = log + ((kind, value, begin, end),)
        if choice == 0:
            self.says(desk, f"allow {value}", "ok")
            states.append((log, value))
        elif choice == 1 and len(states) > 1:
            self.says(desk, "undo", "ok")
            states.pop()
        elif is_log(longer):
            self.says(desk, f"{kind} {value} {begin} {end}", str(len(log)))
            states.append((longer, tolerance))
        else:
            with self.assertRaises((BadOperation, Written)):
                desk.say(f"{kind} {value} {begin} {end}")


if __name__ == "__main__":
    unittest.main()
