"""Sections 4 (g) and 16: texts of logs, orders and faults."""

import unittest

from clockslack.errors import BadText
from clockslack.faults import faults
from clockslack.operations import is_log
from clockslack.orders import can_explain, order_for
from clockslack.texts import chart, format_fault, format_log, format_order, parse_fault, parse_log
from checks import Checked
from samples import EARLY, LOG, LOST, STAMP, TWO, ZERO, deepest_values, odd_values, writes
from search import candidates
from small import mixed_logs, settled_logs

WIDE = (("write", 10 ** 9, -STAMP, STAMP), ("read", 0, -1, 0))
# What stands between words or at an end in place of one space, or beside it.
BLANKS = ("  ", "\t", " \t", "\r", "\v", "\f", "\n", "\u00a0", "\u2003", "\x1c", ",", "_", "")
# Digits that are not of ASCII, for the number 1, and other ways to write it.
ONES = ("\u0661", "\u00b9", "\uff11", "\u0967", "+1", "01", "001", "1.0", "1_", "0x1", "1e0", "--1", "- 1", "-", "",
        "one", "\u22121", "1\x00", "\u20031", "1\u200b")


def all_odd_values():
    return odd_values() + deepest_values() + [0, 1, -1, 10 ** 30]


class Examples(Checked):

    def test_section_16(self):
        self.assertEqual(
            [format_log(ZERO), format_log(()), format_order((2, 0, 1)), format_fault(("late", 0, 1)),
             parse_fault("early 0 1"), parse_log("read 7 0 1") == LOST],
            ["write 1 0 1\nread 0 5 6", "-", "2 0 1", "late 0 1", ("early", 0, 1), True])
        self.assertEqual(chart(LOST), "  0 read           7                 0                 1")
        self.raises(BadText, {"value": "read 7 0"}, parse_log, text="read 7 0")


class Formats(Checked):

    def test_logs(self):
        for log, text in (
                (LOG, "write 1 0 10\nread 1 2 4\nwrite 2 6 8\nread 1 12 14"), (LOST, "read 7 0 1"), ((), "-"),
                (WIDE, "write 1000000000 -1000000000000000 1000000000000000\nread 0 -1 0"),
                (LOST * 200, "\n".join(["read 7 0 1"] * 200))):
            self.assertEqual(self.result(format_log, log=log), text)

    def test_orders(self):
        for order, text in (((), "-"), ((0,), "0"), ((2, 0, 1), "2 0 1"),
                            (tuple(range(200)), " ".join(str(index) for index in range(200))),
                            (order_for(LOG, 2), "2 0 1 3")):
            self.assertEqual(self.result(format_order, order=order), text)

    def test_faults(self):
        for fault, text in ((("unwritten", 0), "unwritten 0"), (("early", 199, 0), "early 199 0"),
                            (("crossed", 1, 2, 2, 3), "crossed 1 2 2 3"), (("late", 0, 1), "late 0 1")):
            self.assertEqual(self.result(format_fault, fault=fault), text)


class ParseLog(Checked):

    def accept(self, text, log):
        self.assertEqual(repr(self.result(parse_log, text=text)), repr(log))

    def refuse(self, text):
        self.raises(BadText, {"value": text}, parse_log, text=text)

    def test_what_is_formatted_is_parsed_back(self):
        logs = [LOG, ZERO, EARLY, LOST, TWO, WIDE, (), writes(200), LOST * 200, WIDE[1:] * 200]
        for log in logs + list(mixed_logs(111, 60, 40)) + list(settled_logs(112, 40, 40)):
            self.accept(format_log(log), log)

    def test_the_longest_log(self):
        log = tuple(("write", 10 ** 9 - number, -STAMP, number - STAMP) for number in range(200))
        self.assertLess(len(format_log(log)), 20000)
        self.accept(format_log(log), log)

    def test_the_empty_log(self):
        self.accept("-", ())
        for text in ("", " ", "- ", " -", "--", "-\n", "\n-", "-\n-", "-\nread 7 0 1", "read 7 0 1\n-", "\u2212",
                     "\u2013", "- -", "\n", "()"):
            self.refuse(text)

    def test_the_number_of_parts(self):
        for text in ("read", "read 7", "read 7 0", "read 7 0 1 ", "read 7 0 1 2", "7 0 1", "read read 7 0 1",
                     " read 7 0 1", "read 7 0 1\n", "\nread 7 0 1", "read 7 0 1\n\nread 7 0 1", "read 7 0 1\n0",
                     "read 7 0 1 read 7 0 1", "read 7 0\n1", "read\n7 0 1"):
            self.refuse(text)

    def test_kinds(self):
        for kind in ("Read", "READ", "r", "reads", "writ", "writes", "w", "", "0", "-", "read\x00", "rea\u217d"):
            self.refuse(f"{kind} 7 0 1")
        self.accept("write 7 0 1", (("write", 7, 0, 1),))

    def test_what_stands_between_and_at_the_ends(self):
        for blank in BLANKS:
            for text in (f"read{blank}7 0 1", f"read 7{blank}0 1", f"read 7 0{blank}1"):
                self.refuse(text)
            if blank:
                self.refuse(blank + "read 7 0 1")
                self.refuse("read 7 0 1" + blank)
                self.refuse("read 7 0 1\n" + blank + "read 7 0 1")
                self.refuse("read 7 0 1" + blank + "\nread 7 0 1")
        for end in ("\n", "\r\n", "\r", "\n\n", "\u2028", "\x85", ";", "; "):
            self.refuse("read 7 0 1" + end)
        for end in ("\r\n", "\r", "\u2028", "\x85", "\v", "\f", "; ", "\n\n", " \n", "\n "):
            self.refuse("read 7 0 1" + end + "read 7 0 1")

    def test_ways_to_write_a_number(self):
        self.accept("read 1 1 1", (("read", 1, 1, 1),))
        for one in ONES:
            self.refuse(f"read {one} 1 1")
            self.refuse(f"read 1 {one} 1")
            self.refuse(f"read 1 1 {one}")

    def test_signs_put_in_left_out_and_exchanged(self):
        self.accept("read 7 -3 5", (("read", 7, -3, 5),))
        self.accept("read 7 3 5", (("read", 7, 3, 5),))
        for text in ("read -7 3 5", "read 7 +3 5", "read 7 3 +5", "read 7 3 -5", "read 7 --3 5", "read 7 -3- 5",
                     "read 7 3- 5", "read 7 -+3 5", "read 7 - 5", "read +7 3 5", "read 7 \u22123 5"):
            self.refuse(text)

    def test_0(self):
        self.accept("read 0 0 0", (("read", 0, 0, 0),))
        for zero in ("-0", "00", "+0", "-00", "000"):
            self.refuse(f"read {zero} 0 0")
            self.refuse(f"read 0 {zero} 0")
            self.refuse(f"read 0 0 {zero}")

    def test_leading_zeros(self):
        self.accept("write 100 -100 1000", (("write", 100, -100, 1000),))
        for text in ("write 0100 -100 1000", "write 100 -0100 1000", "write 100 -100 01000", "write 007 0 1"):
            self.refuse(text)

    def test_the_limits_of_values_and_stamps(self):
        self.accept(f"read {10 ** 9} {-STAMP} {STAMP}", (("read", 10 ** 9, -STAMP, STAMP),))
        for text in (f"read {10 ** 9 + 1} 0 1", f"read 0 {-STAMP - 1} 0", f"read 0 0 {STAMP + 1}", "write 0 0 1",
                     "read -1 0 1", "read 7 1 0", f"read 0 {-10 ** 19} {10 ** 19}", f"read {10 ** 20} 0 1"):
            self.refuse(text)

    def test_numbers_of_thousands_of_digits(self):
        for digits in (20, 21, 640, 4300, 4301, 5000, 19000):
            for number in ("9" * digits, "-" + "9" * digits, "0" * digits, "1" + "0" * digits, "-" + "0" * digits + "1"):
                self.refuse(f"read {number} 0 1")
                self.refuse(f"read 7 {number} 1")
                self.refuse(f"read 7 0 {number}")

    def test_what_is_no_log(self):
        self.accept("write 7 0 1\nread 7 0 1\nread 7 0 1", (("write", 7, 0, 1),) + LOST * 2)
        for text in ("write 7 0 1\nwrite 7 0 1", "write 7 0 1\nread 7 0 1\nwrite 7 5 6"):
            self.refuse(text)
        self.accept("\n".join(["read 7 0 1"] * 200), LOST * 200)
        self.refuse("\n".join(["read 7 0 1"] * 201))
        self.refuse("\n".join(["read 7 0 1"] * 199 + ["write 7 0 1", "read 7 0 1"]))

    def test_values_that_are_no_text_of_a_log(self):
        for value in all_odd_values() + [LOG, list(LOG), b"-", b"read 7 0 1", "read 7 0 1" * 1800, "\n" * 20000,
                                         " " * 20000, "- " * 9000, "\ud800"]:
            if value != "-":
                self.refuse(value)

    def test_the_very_value_is_told(self):
        value = ["read 7 0 1"]
        with self.assertRaises(BadText) as held:
            parse_log(value)
        self.assertIs(held.exception.value, value)

    def test_whatever_is_parsed_is_formatted_back(self):
        text = "write 12 -3 40\nread 0 5 6"
        for at in range(len(text)):
            for letter in "0-1 9\nx+":
                for changed in (text[:at] + letter + text[at:], text[:at] + letter + text[at + 1:],
                                text[:at] + text[at + 1:]):
                    try:
                        log = parse_log(changed)
                    except BadText:
                        continue
                    self.assertTrue(is_log(log))
                    self.assertEqual(format_log(log), changed)


class ParseFault(Checked):

    def accept(self, text, fault):
        self.assertEqual(repr(self.result(parse_fault, text=text)), repr(fault))

    def refuse(self, text):
        self.raises(BadText, {"value": text}, parse_fault, text=text)

    def test_what_is_formatted_is_parsed_back(self):
        for fault in candidates(LOG):
            self.accept(format_fault(fault), fault)
        for log in mixed_logs(113, 60, 20):
            for fault in faults(log, 0):
                self.accept(format_fault(fault), fault)

    def test_each_word(self):
        self.accept("unwritten 5", ("unwritten", 5))
        self.accept("early 5 3", ("early", 5, 3))
        self.accept("crossed 1 2 2 3", ("crossed", 1, 2, 2, 3))
        self.accept("late 0 0", ("late", 0, 0))
        for word in ("Late", "lat", "latest", "", "-", "0", "read", "late\x00", "fault"):
            self.refuse(f"{word} 0 1")
            self.refuse(f"{word} 0")

    def test_the_number_of_indexes(self):
        for word, count in (("unwritten", 1), ("early", 2), ("crossed", 4), ("late", 2)):
            for number in range(7):
                text = " ".join([word] + ["1"] * number)
                if number == count:
                    self.accept(text, (word,) + (1,) * number)
                else:
                    self.refuse(text)

    def test_indexes_from_0_to_199(self):
        for index in (0, 1, 99, 198, 199):
            self.accept(f"early {index} 0", ("early", index, 0))
            self.accept(f"crossed 0 0 0 {index}", ("crossed", 0, 0, 0, index))
        for index in (-1, -199, 200, 201, 1000, 10 ** 19, 10 ** 20, 10 ** 30):
            self.refuse(f"unwritten {index}")
            self.refuse(f"early {index} 0")
            self.refuse(f"early 0 {index}")
            self.refuse(f"crossed 0 0 0 {index}")

    def test_ways_to_write_an_index(self):
        for one in ONES + ("-0", "00"):
            self.refuse(f"early {one} 1")
            self.refuse(f"early 1 {one}")
            self.refuse(f"unwritten {one}")
        for digits in (21, 4301, 19000):
            self.refuse("unwritten " + "0" * digits)
            self.refuse("unwritten " + "1" * digits)
            self.refuse("unwritten -" + "1" * digits)

    def test_what_stands_between_and_at_the_ends(self):
        for blank in BLANKS:
            self.refuse(f"early{blank}0 1")
            self.refuse(f"early 0{blank}1")
            if blank:
                self.refuse(f"{blank}early 0 1")
                self.refuse(f"early 0 1{blank}")
        for text in (" early 0 1", "early 0 1 ", "early 0 1\n", "early 0 1\r\n", "\nearly 0 1", "early 0 1\nearly 0 1"):
            self.refuse(text)

    def test_values_that_are_no_text_of_a_fault(self):
        for value in all_odd_values() + [("early", 0, 1), ["early", 0, 1], "('early', 0, 1)", b"early 0 1",
                                         "early 0 1" * 2000, "- 0", "-"]:
            self.refuse(value)


class Chart(Checked):

    def test_no_operations(self):
        self.assertEqual(self.result(chart, log=()), "")

    def test_the_columns(self):
        self.assertEqual(self.result(chart, log=ZERO), (
            "  0 write          1                 0                 1\n"
            "  1 read           0                 5                 6"))

    def test_the_widest_parts(self):
        log = (("write", 10 ** 9, -STAMP, -STAMP),) + LOST * 199
        lines = self.result(chart, log=log).split("\n")
        self.assertEqual(lines[0], "  0 write 1000000000 -1000000000000000 -1000000000000000")
        self.assertEqual(lines[9], "  9 read           7                 0                 1")
        self.assertEqual(lines[10], " 10 read           7                 0                 1")
        self.assertEqual(lines[199], "199 read           7                 0                 1")
        self.assertEqual(len(lines), 200)

    def test_the_parts_by_their_places(self):
        for log in mixed_logs(114, 40, 30):
            for index, line in enumerate(chart(log).split("\n")):
                self.assertEqual(len(line), 3 + 1 + 5 + 1 + 10 + 1 + 17 + 1 + 17)
                kind, *numbers = log[index]
                self.assertEqual(line[0:3], str(index).rjust(3))
                self.assertEqual(line[4:9], kind.ljust(5))
                self.assertEqual([line[10:20], line[21:38], line[39:56]],
                                 [str(number).rjust(width) for number, width in zip(numbers, (10, 17, 17))])
                self.assertEqual([line[3], line[9], line[20], line[38]], [" "] * 4)


class Orders(Checked):

    def test_orders_of_logs(self):
        for log in settled_logs(115, 40, 30):
            if can_explain(log, 3):
                order = order_for(log, 3)
                self.assertEqual(format_order(order).split(" "), [str(index) for index in order])


if __name__ == "__main__":
    unittest.main()
