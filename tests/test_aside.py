"""Sections 4 (e) and 12: the fewest values to be set aside, and tables of heights."""

import unittest

from clockslack.aside import aside, fewest_aside, heights, shows_aside
from clockslack.least import least_tolerance
from clockslack.orders import can_explain
from clockslack.values import values_of
from checks import Checked
from heights import Sides
from samples import (
    EARLY, GREATEST_TOLERANCE, LOG, LOST, STAMP, TWO, ZERO, deepest_values, odd_values, writes)
from search import fewest_of, least_of, left_of, leasts_without, values_in, weight_of
from small import Numbers, mixed_logs, settled_logs, smallest_logs

BOTH = ("values", "operations")


def crossed(count):
    """Make a log of so many values, each with a write and a late read, all of which are before each other."""
    numbers = range(1, count + 1)
    return (tuple(("write", number, number, number) for number in numbers)
            + tuple(("read", number, 1000 + number, 1000 + number) for number in numbers))


def stretched(*stretches):
    """Make a log of a value for each stretch, with the first end and the last begin that it names."""
    log = ()
    for number, (first, last) in enumerate(stretches):
        log += (("write", number + 1, min(first, last) - 1, first), ("read", number + 1, last, max(first, last) + 1))
    return log


# 1 is wide, from 0 to 100; 2, 3 and 4 are narrow and lie within it, 5 does not.
INNER = (("write", 1, 0, 0), ("read", 1, 100, 100), ("write", 2, 10, 12), ("write", 3, 20, 22), ("read", 3, 21, 22),
         ("write", 4, 30, 32), ("write", 5, 100, 102))


class Examples(Checked):

    def test_section_12_fewest(self):
        self.assertEqual(
            [fewest_aside(LOG, 0), fewest_aside(LOG, 2), aside(LOG, 0, by="operations"), fewest_aside(LOST + EARLY, 0),
             aside(EARLY, 3)],
            [1, 0, (2,), 2, ()])

    def test_section_12_shows(self):
        self.assertEqual(
            [shows_aside(LOG, 0, ((2,), ())), shows_aside(LOG, 0, ((1, 2), ())),
             shows_aside(LOG, 0, (aside(LOG, 0), heights(LOG, 0)))],
            [True, False, True])
        self.assertEqual(
            [shows_aside(LOG, 0, ((2,), ((12, 2),)), by="operations"),
             shows_aside(LOG, 0, ((1,), ()), by="operations")],
            [True, False])


class Set(Checked):

    def check(self, log, tolerance, weight, by, values=None):
        """Check the weight, the values with it, and that the table shows it; values only if no others have it."""
        arguments = {"log": log, "tolerance": tolerance, "by": by}
        self.assertEqual(repr(self.result(fewest_aside, **arguments)), repr(weight))
        found = self.result(aside, **arguments)
        table = self.result(heights, **arguments)
        self.check_values(log, tolerance, weight, by, found)
        self.assertIs(table.__class__, tuple)
        sides = Sides(log, tolerance)
        self.assertTrue(sides.is_table(by, table), (log, tolerance, by, table))
        self.assertEqual(sides.shown_weight(by, table), weight)
        self.accepts(shows_aside, log=log, tolerance=tolerance, value=(found, table), by=by)
        if values is not None:
            self.assertEqual(found, values)

    def check_values(self, log, tolerance, weight, by, values):
        self.assertIs(values.__class__, tuple)
        self.assertEqual(list(values), sorted(set(values)))
        self.assertTrue(set(values) <= set(values_of(log)))
        self.assertEqual(weight_of(log, values, by), weight)
        self.assertTrue(can_explain(left_of(log, values), tolerance), (log, tolerance, by, values))

    def both(self, log, tolerance, values):
        """Check values that are the fewest by both weights, and no others are."""
        for by in BOTH:
            self.check(log, tolerance, weight_of(log, values, by), by, values)


class Fewest(Set):

    def test_the_samples(self):
        self.check(LOG, 0, 1, "values")
        self.check(LOG, 0, 1, "operations", (2,))
        self.check(LOG, 1, 1, "operations", (2,))
        self.both(LOG, 2, ())
        self.check(ZERO, 3, 1, "values")
        self.check(ZERO, 3, 1, "operations")
        self.both(ZERO, 4, ())
        self.both(TWO, 0, ())

    def test_by_values_is_what_holds_if_nothing_is_said(self):
        for log in (LOG, INNER, LOST + EARLY, crossed(3)):
            for tolerance in (0, 2, 9):
                self.assertEqual(self.result(fewest_aside, log=log, tolerance=tolerance),
                                 fewest_aside(log, tolerance, by="values"))
                for function in (aside, heights):
                    self.assertEqual(self.result(function, log=log, tolerance=tolerance),
                                     function(log, tolerance, by="values"))

    def test_by_is_passed_by_name_only(self):
        for function in (fewest_aside, aside, heights):
            with self.assertRaises(TypeError):
                function(LOG, 0, "values")
        with self.assertRaises(TypeError):
            shows_aside(LOG, 0, ((2,), ()), "values")

    def test_the_empty_log(self):
        for tolerance in (0, 1, GREATEST_TOLERANCE):
            self.both((), tolerance, ())

    def test_what_can_be_explained(self):
        for log in (LOG[:3], TWO, (("read", 0, 5, 6),) * 200, writes(200), tuple(reversed(writes(200)))):
            self.both(log, 0, ())
            self.both(log, GREATEST_TOLERANCE, ())

    def test_values_without_a_write(self):
        for tolerance in (0, 1, GREATEST_TOLERANCE):
            self.both(LOST, tolerance, (7,))
            self.both(LOST * 200, tolerance, (7,))
            self.both(LOST + (("read", 9, 0, 1), ("read", 7, 5, 9), ("read", 0, 0, 0)), tolerance, (7, 9))

    def test_values_that_are_read_early(self):
        self.both(EARLY, 2, (1,))
        self.both(EARLY, 3, ())
        self.both(LOST + EARLY, 0, (1, 7))
        self.both(LOST + EARLY, 3, (7,))
        # By the other reads 1 would be a wide value, and a bad one all the same.
        self.both(EARLY + (("read", 1, 50, 51), ("write", 2, 20, 21)), 0, (1,))

    def test_bad_values_do_not_count_for_others(self):
        # 7 would lie within 1, and 8 and 1 would be before each other.
        log = (("write", 1, 0, 0), ("read", 1, 9, 9), ("read", 7, 4, 4), ("read", 8, 3, 3), ("read", 8, 7, 7))
        self.both(log, 0, (7, 8))
        # The same for those that are read early.
        log = (("write", 1, 0, 0), ("read", 1, 9, 9), ("read", 2, 4, 4), ("write", 2, 5, 5))
        self.both(log, 0, (2,))
        self.check(log, 1, 1, "values")
        self.check(log, 4, 1, "values")
        self.both(log, 5, ())

    def test_narrow_values_within_a_wide_one(self):
        # By values 1 is less than 2, 3 and 4, by operations 2 is less than 4.
        self.both(INNER, 0, (1,))
        self.both(INNER[:2] + INNER[3:], 0, (1,))
        self.check(INNER[:3] + INNER[6:], 0, 1, "values")
        self.check(INNER[:3] + INNER[6:], 0, 1, "operations", (2,))
        self.check(INNER[:2] + INNER[5:], 0, 1, "operations", (4,))
        self.both(INNER[:2] + INNER[6:], 0, ())

    def test_weights_decide(self):
        # One wide value of few operations, or many narrow ones within it, or the other way round.
        log = (("write", 1, 0, 0),) + (("read", 1, 100, 100),) * 5 + INNER[2:]
        self.check(log, 0, 1, "values", (1,))
        self.check(log, 0, 4, "operations", (2, 3, 4))
        log = (("write", 1, 0, 0), ("read", 1, 100, 100)) + (("write", 2, 10, 12),) + (("read", 2, 11, 12),) * 5
        self.check(log, 0, 2, "operations", (1,))
        self.check(log, 0, 1, "values")

    def test_a_narrow_value_at_the_edges_of_a_wide_one(self):
        wide = (("write", 1, -9, 0), ("read", 1, 10, 19))
        for begin, end, values in ((1, 9, 1), (1, 1, 1), (9, 9, 1), (0, 5, 0), (5, 10, 0), (0, 10, 0), (-5, 15, 0),
                                   (0, 0, 0), (10, 10, 0)):
            self.check(wide + (("write", 2, begin, end),), 0, values, "values")
        for begin, end, values in ((3, 7, 1), (2, 7, 0), (3, 8, 0)):
            self.check(wide + (("write", 2, begin, end),), 2, values, "values")

    def test_stretches_that_overlap_or_just_touch(self):
        self.both(stretched((0, 5), (5, 9)), 0, ())
        self.both(stretched((5, 9), (0, 5)), 0, ())
        for by, weight in (("values", 1), ("operations", 2)):
            self.check(stretched((0, 6), (5, 9)), 0, weight, by)
            self.check(stretched((5, 9), (0, 6)), 0, weight, by)
            self.check(stretched((0, 9), (0, 9)), 0, weight, by)
            self.check(stretched((0, 9), (3, 5)), 0, weight, by)
        self.both(stretched((0, 6), (5, 9), (6, 8)), 0, (2,))
        self.both(stretched((0, 4), (3, 7), (6, 9)), 0, (2,))
        self.both(stretched((0, 4), (4, 6), (6, 9), (1, 8)), 0, (4,))
        self.both(stretched((0, 4), (3, 7), (6, 9)), 1, ())

    def test_the_end_of_a_stretch_moves_with_the_tolerance(self):
        # The stretches begin later by the tolerance: 1 begins at 3 then, where 2 ends.
        log = stretched((0, 9), (-9, 3))
        for tolerance in (0, 1, 2):
            self.check(log, tolerance, 1, "values")
        self.both(log, 3, ())

    def test_one_great_weight_against_many_small_ones(self):
        wide = (("write", 9, 0, 0),) + (("read", 9, 99, 99),) * 9
        small = stretched((10, 20), (20, 30), (30, 40))
        self.check(wide + small, 0, 1, "values", (9,))
        self.check(wide + small, 0, 6, "operations", (1, 2, 3))
        self.check(wide + small + (("read", 3, 35, 36),) * 5, 0, 10, "operations", (9,))

    def test_stretches_with_the_same_end(self):
        log = stretched((0, 50), (10, 50), (20, 50)) + (("read", 2, 50, 50),)
        self.check(log, 0, 4, "operations", (1, 3))
        self.check(log, 0, 2, "values")
        log += (("read", 3, 50, 50), ("read", 3, 50, 50))
        self.check(log, 0, 5, "operations", (1, 2))

    def test_0_as_a_value(self):
        # 0 is wide, whatever its stamps are, and goes back without end.
        self.check(ZERO, 0, 1, "values")
        log = ZERO + (("write", 2, 2, 3),)
        self.both(log, 0, (0,))
        self.both(log[1:], 1, (0,))
        self.both(log[1:], 2, ())
        log = (("write", 1, -STAMP, -STAMP), ("read", 0, 1 - STAMP, STAMP))
        for by in BOTH:
            self.check(log, 0, 1, by)
        self.both(log, 1, ())
        # 0 and a wide value, whose stretch begins before 0 ends or where it ends.
        for first, weight in ((4, 1), (5, 0), (6, 0)):
            self.check((("read", 0, 5, 5), ("write", 1, 0, first), ("read", 1, 9, 9)), 0, weight, "values")

    def test_many_reads_of_0(self):
        log = (("read", 0, 50, 50),) * 5 + (("write", 1, 0, 0), ("write", 2, 60, 60), ("write", 3, 1, 1))
        self.check(log, 0, 1, "values", (0,))
        self.check(log, 0, 2, "operations", (1, 3))

    def test_stamps_at_their_limits(self):
        log = (("write", 1, -STAMP, -STAMP), ("read", 1, STAMP, STAMP), ("write", 2, 0, 0), ("read", 2, 1, 1))
        for tolerance in (0, STAMP - 1):
            self.check(log, tolerance, 1, "values")
        self.both(log, STAMP + 1, ())
        self.both(log, GREATEST_TOLERANCE, ())

    def test_full_logs(self):
        self.check(crossed(100), 0, 99, "values")
        self.check(crossed(100), 0, 198, "operations")
        self.both(crossed(100), 1099, ())
        touching = stretched(*[(number, number + 1) for number in range(100)])
        self.both(touching, 0, ())
        every = stretched(*[(number, number + 2) for number in range(100)])
        self.check(every, 0, 50, "values")
        self.check(every, 0, 100, "operations")
        self.both(every, 1, ())
        around = (("write", 900, -9, -9), ("read", 900, 999, 999)) + writes(198)
        self.both(around, 0, (900,))

    def check_by_sets(self, log, least, tolerances):
        """Check against all sets of values, whose rests have the least tolerances that a function tells."""
        pairs = leasts_without(log, least)
        for tolerance in tolerances:
            for by in BOTH:
                weight = fewest_of(log, pairs, tolerance, by)
                self.assertEqual(fewest_aside(log, tolerance, by=by), weight, (log, tolerance, by))
                self.check_values(log, tolerance, weight, by, aside(log, tolerance, by=by))

    def test_the_look_over_all_sets_of_values_by_all_orders(self):
        for log in list(smallest_logs())[::5] + list(mixed_logs(81, 260, 5)) + list(settled_logs(82, 60, 5)):
            self.check_by_sets(log, least_of, (0, 1, 3))

    def test_the_look_over_all_sets_of_values(self):
        for log in list(mixed_logs(83, 160, 16)) + list(settled_logs(84, 60, 12)):
            if len(values_in(log)) <= 7:
                self.check_by_sets(log, least_tolerance, (0, 1, 2, 4))

    def test_longer_logs_with_their_tables(self):
        for log in list(mixed_logs(85, 40, 60)) + list(settled_logs(86, 40, 60)):
            for tolerance in (0, 1, 3):
                for by in BOTH:
                    self.check(log, tolerance, fewest_aside(log, tolerance, by=by), by)


class ShowsAside(Set):

    def accept(self, log, tolerance, value, by="values"):
        self.accepts(shows_aside, log=log, tolerance=tolerance, value=value, by=by)

    def refuse(self, log, tolerance, value, by="values"):
        self.refuses(shows_aside, log=log, tolerance=tolerance, value=value, by=by)

    def samples(self):
        for log in (LOG, ZERO, EARLY, LOST + EARLY, INNER, stretched((0, 6), (5, 9), (6, 8)), crossed(4)):
            for by in BOTH:
                yield log, by, aside(log, 0, by=by), heights(log, 0, by=by)

    def test_other_values_of_the_same_weight(self):
        for value in (1, 2):
            self.accept(LOG, 0, ((value,), ()))
        for kept in (1, 2, 3, 4):
            values = tuple(value for value in (1, 2, 3, 4) if value != kept)
            self.accept(crossed(4), 0, (values, ((1001, 1),)))
            self.accept(crossed(4), 0, (values, ((1001, 2),)), "operations")

    def test_values_with_which_it_cannot_be_explained(self):
        self.refuse(LOG, 0, ((), ()))
        self.refuse(LOG, 0, ((), ((12, 1),)))
        self.refuse(INNER, 0, ((2,), ()))
        self.refuse(INNER, 0, ((5,), ()))
        self.accept(INNER, 0, ((1,), ()))
        self.refuse(LOST + EARLY, 0, ((1,), ()))
        self.refuse(LOST + EARLY, 0, ((7,), ()))
        self.accept(LOST + EARLY, 0, ((1, 7), ()))
        self.accept(LOST + EARLY, 3, ((7,), ()))
        self.refuse(LOST + EARLY, 2, ((7,), ()))

    def test_more_values_than_the_table_shows(self):
        self.refuse(LOG, 0, ((1, 2), ()))
        self.refuse(LOG, 2, ((1,), ()))
        self.refuse(LOG, 2, ((1,), ((12, 1),)))
        self.accept(LOG, 2, ((), ((12, 1),)))
        self.refuse(TWO, 0, ((0,), ((2, 1),)))
        self.refuse(TWO, 0, ((0,), ()))
        self.accept(TWO, 0, ((), ((1, 1),)))
        self.refuse((), 0, ((), ((0, 1),)))
        self.accept((), 0, ((), ()))

    def test_a_last_height_that_is_greater_than_need_be(self):
        # The weight that it shows is less than that of any values that suffice.
        self.accept(LOG, 0, ((2,), ((12, 2),)), "operations")
        self.refuse(LOG, 0, ((2,), ((12, 3),)), "operations")
        self.refuse(LOG, 0, ((), ((12, 3),)), "operations")
        self.refuse(LOG, 0, ((2,), ((12, 1),)), "operations")
        self.refuse(LOG, 0, ((1,), ((12, 0),)), "operations")

    def test_where_a_step_may_be(self):
        # The stretch of 1 is from 4 to 12, its gain by operations is 2.
        for place, shown in ((3, False), (4, False), (5, True), (11, True), (12, True), (13, False)):
            self.assertIs(shows_aside(LOG, 0, ((2,), ((place, 2),)), by="operations"), shown, place)
        # Within 1 it is from 5 on.
        for place, shown in ((4, False), (5, False), (6, True), (12, True), (13, False)):
            self.assertIs(shows_aside(LOG, 1, ((2,), ((place, 2),)), by="operations"), shown, place)
        self.accept(LOG, 0, ((2,), ((5, 1), (12, 2))), "operations")
        self.refuse(LOG, 0, ((2,), ((4, 1), (12, 2))), "operations")
        self.refuse(LOG, 0, ((2,), ((5, 1), (13, 2))), "operations")

    def test_steps_without_need(self):
        # Nothing is gained by values, so nothing must rise, and equal heights may follow each other.
        for table in ((), ((0, 0),), ((-5, 0), (7, 0), (99, 0))):
            self.accept(LOG, 0, ((2,), table))
        for table in (((6, 2), (7, 2)), ((0, 0), (6, 2), (99, 2)), ((-99, 0), (5, 1), (6, 1), (7, 2), (8, 2))):
            self.accept(LOG, 0, ((2,), table), "operations")

    def test_0_begins_below_every_integer(self):
        # 0 alone is wide and gains 1, at any place up to its last begin, which is 5.
        log = (("read", 0, 5, 6),)
        for place in (5, 4, 0, -STAMP, -10 ** 30, -10 ** 900):
            self.accept(log, 0, ((), ((place, 1),)))
        for place in (6, STAMP, 10 ** 30):
            self.refuse(log, 0, ((), ((place, 1),)))
        self.refuse(log, 0, ((), ()))
        self.refuse(log, 0, ((), ((5, 0),)))

    def test_great_places_and_heights(self):
        great = 10 ** 900
        self.accept(LOG, 0, ((2,), ((-great, 0), (12, 2), (great, 2))), "operations")
        self.refuse(LOG, 0, ((2,), ((-great, 0), (12, 2), (great, great))), "operations")
        self.refuse(LOG, 0, ((2,), ((-great, great),)), "operations")
        self.refuse(LOG, 0, ((2,), ((great, 2),)), "operations")
        self.accept(LOG, 0, ((2,), ((-great - 1, 0), (-great, 0))))
        self.refuse(LOG, 0, ((2,), ((-great, 0), (-great - 1, 0))))

    def test_negative_places_and_heights(self):
        self.accept(LOG, 0, ((2,), ((-7, 0), (-6, 0))))
        self.refuse(LOG, 0, ((2,), ((-6, 0), (-7, 0))))
        # A rise from -2 to 0, or to -1 less than it needs: the first height is at least 0.
        for table in (((5, -1),), ((4, -1),), ((-9, -1),), ((99, -1),), ((0, -2), (12, 0)), ((0, -1), (12, 0)), ((5, -1), (12, 2))):
            for by in BOTH:
                for values in ((), (1,), (2,), (1, 2)):
                    self.refuse(LOG, 0, (values, table), by)

    def test_places_that_do_not_ascend(self):
        for table in (((6, 2), (6, 2)), ((7, 2), (6, 2)), ((6, 0), (6, 2)), ((12, 2), (5, 2)),
                      ((0, 0), (12, 2), (12, 2)), ((0, 0), (9, 2), (8, 2), (99, 2))):
            self.refuse(LOG, 0, ((2,), table), "operations")
            # The same pairs, ascending and with one for each place.
            self.accept(LOG, 0, ((2,), tuple(sorted(dict(table).items()))), "operations")

    def test_heights_that_fall(self):
        for table in (((6, 3), (12, 2)), ((5, 1), (6, 0), (12, 2)), ((5, 2), (6, 1), (7, 2))):
            self.refuse(LOG, 0, ((2,), table), "operations")

    def test_every_wide_value_counts(self):
        # 1, 2 and 3 touch each other: each one has to gain 1.
        log = stretched((0, 3), (3, 6), (6, 9))
        self.accept(log, 0, ((), ((3, 1), (6, 2), (9, 3))))
        self.accept(log, 0, ((), ((1, 1), (5, 2), (7, 3))))
        for table in (((3, 3),), ((3, 1), (6, 3)), ((3, 2), (9, 3)), ((0, 1), (6, 2), (9, 3)), ((3, 1), (6, 2), (10, 3)),
                      ((4, 1), (6, 2), (9, 3))):
            self.refuse(log, 0, ((), table))

    def test_values_that_do_not_ascend(self):
        self.accept(LOST + EARLY, 0, ((1, 7), ()))
        for values in ((7, 1), (1, 1, 7), (1, 7, 7), (7, 7), (1, 1)):
            self.refuse(LOST + EARLY, 0, (values, ()))

    def test_values_that_the_log_does_not_have(self):
        for values in ((3,), (0,), (2, 3), (0, 2), (-1,), (10 ** 30,)):
            self.refuse(LOG, 0, (values, ()))
            self.refuse(LOG, 0, (values, ((12, 2),)), "operations")
        self.refuse((), 0, ((0,), ()))

    def test_bools(self):
        self.accept(LOG, 0, ((1,), ()))
        self.refuse(LOG, 0, ((True,), ()))
        self.accept(ZERO, 0, ((0,), ((1, 0),)))
        self.refuse(ZERO, 0, ((False,), ((1, 0),)))
        self.refuse(ZERO, 0, ((0,), ((True, 0),)))
        self.refuse(ZERO, 0, ((0,), ((1, False),)))
        log = (("read", 0, 1, 1),)
        self.accept(log, 0, ((), ((0, 1),)))
        self.refuse(log, 0, ((), ((False, 1),)))
        self.refuse(log, 0, ((), ((0, True),)))

    def test_lists_in_place_of_tuples(self):
        for log, by, values, table in self.samples():
            self.accept(log, 0, (values, table), by)
            pairs = [list(pair) for pair in table] or [[99, 0]]
            for value in ([values, table], (list(values), table), (values, list(table)), (values, tuple(pairs)),
                          {values: table}, (values, dict(table)), ((values, table),)):
                self.refuse(log, 0, value, by)

    def test_a_part_more_or_fewer(self):
        for log, by, values, table in self.samples():
            for value in ((values,), (table,), values, table, (values, table, ()), (values, table, table),
                          (values, table, None), (), (values, ((0,),)), (values, ((0, 0, 0),)), (values, ((),)),
                          (values, (0, 0)), (values, (0,))):
                self.refuse(log, 0, value, by)

    def test_any_value(self):
        for log in (LOG, ZERO, LOST + EARLY, ()):
            for by in BOTH:
                for value in odd_values() + deepest_values() + [0, 1, -1, 10 ** 30]:
                    self.refuse(log, 0, value, by)

    def test_any_value_in_each_place(self):
        for value in odd_values() + deepest_values():
            for by, last in (("values", 1), ("operations", 2)):
                if value != (1,):
                    self.refuse(crossed(2), 0, (value, ((1001, last),)), by)
                self.refuse(crossed(2), 0, ((1,), value), by)
                self.refuse(crossed(2), 0, ((1, value), ((1001, last),)), by)
                self.refuse(crossed(2), 0, ((value,), ((1001, last),)), by)
                self.refuse(crossed(2), 0, ((1,), ((1001, last), value)), by)
                self.refuse(crossed(2), 0, ((1,), (value, (1001, last))), by)
                self.refuse(crossed(2), 0, ((1,), ((value, last),)), by)
                self.refuse(crossed(2), 0, ((1,), ((1001, value),)), by)
                self.refuse(crossed(2), 0, ((1,), ((0, value), (1001, last))), by)
                self.accept(crossed(2), 0, ((1,), ((0, 0), (1001, last))), by)

    def test_only_what_is_as_few_as_can_be(self):
        # Whatever the table: the values that are accepted with it are the fewest.
        numbers = Numbers(87)
        for log in mixed_logs(88, 300, 8):
            for tolerance in (0, 2):
                sides = Sides(log, tolerance)
                for by in BOTH:
                    fewest = fewest_aside(log, tolerance, by=by)
                    least = aside(log, tolerance, by=by)
                    values = tuple(value for value in values_in(log) if numbers.below(3) == 0)
                    for table in self.tables(numbers, heights(log, tolerance, by=by)):
                        proper, shown = sides.is_table(by, table), sides.shown_weight(by, table)
                        found = shows_aside(log, tolerance, (values, table), by=by)
                        self.assertIs(found, proper and weight_of(log, values, by) == shown
                                      and can_explain(left_of(log, values), tolerance), (log, tolerance, by, table))
                        self.assertFalse(found and weight_of(log, values, by) != fewest)
                        found = shows_aside(log, tolerance, (least, table), by=by)
                        self.assertIs(found, proper and shown == fewest, (log, tolerance, by, table))

    def tables(self, numbers, table):
        """Yield a table, and the same one with a place or a height that is a little off."""
        yield table
        for at, (place, height) in enumerate(table):
            step = numbers.below(5) - 2
            yield table[:at] + ((place + step, height),) + table[at + 1:]
            yield table[:at] + ((place, height + step),) + table[at + 1:]
            yield table[:at] + table[at + 1:]

    def test_what_is_wide_and_narrow_in_a_sample(self):
        sides = Sides(INNER, 0)
        self.assertEqual([sides.bad, sides.wide, sides.narrow], [[], [1], [2, 3, 4, 5]])
        self.assertEqual([sides.gain_of(1, by) for by in BOTH], [-2, -2])


if __name__ == "__main__":
    unittest.main()
