"""The interface: where each name is defined, its arguments and kinds of values."""

import inspect
import unittest

from seatmarks import errors, rows, stretches


def parameters(function):
    return [(one.name, one.default) for one in inspect.signature(function).parameters.values()]


NONE_GIVEN = inspect.Parameter.empty


class ErrorsTest(unittest.TestCase):

    def test_seat_error_is_straight_under_value_error(self):
        self.assertEqual(errors.SeatError.__bases__, (ValueError,))
        self.assertEqual(errors.SeatError.__module__, "seatmarks.errors")

    def test_the_others_are_straight_under_seat_error(self):
        for name in ("BadWide", "NoThing", "TooMany", "Full"):
            error = getattr(errors, name)
            self.assertEqual(error.__bases__, (errors.SeatError,), name)
            self.assertEqual(error.__module__, "seatmarks.errors", name)


class StretchesTest(unittest.TestCase):

    def test_names_and_arguments(self):
        for name, wanted in (("is_too_full", ["level", "many"]),
                             ("stretch_at", ["level", "mark"]),
                             ("spread", ["level", "start", "many"])):
            function = getattr(stretches, name)
            self.assertEqual(function.__module__, "seatmarks.stretches")
            self.assertEqual(parameters(function), [(one, NONE_GIVEN) for one in wanted])

    def test_kinds_of_values(self):
        self.assertIs(stretches.is_too_full(level=0, many=1), False)
        self.assertIs(stretches.is_too_full(level=0, many=2), True)
        self.assertIs(type(stretches.stretch_at(level=3, mark=9)), int)
        self.assertIs(type(stretches.spread(level=3, start=0, many=2)), list)


class RowTest(unittest.TestCase):

    def test_names_and_arguments(self):
        self.assertEqual(rows.Row.__module__, "seatmarks.rows")
        self.assertEqual(parameters(rows.Row), [("wide", NONE_GIVEN)])
        for name, wanted in (("put", [("one", None)]),
                             ("take", [("one", NONE_GIVEN)]),
                             ("things", []),
                             ("mark", [("one", NONE_GIVEN)]),
                             ("is_ahead", [("one", NONE_GIVEN), ("other", NONE_GIVEN)]),
                             ("purse", [])):
            self.assertIn(name, vars(rows.Row))
            self.assertEqual(parameters(vars(rows.Row)[name])[1:], wanted, name)

    def test_kinds_of_values(self):
        row = rows.Row(wide=4)
        told = row.put(one=None)
        self.assertEqual(told, (0, None, []))
        self.assertEqual([type(part) for part in told], [int, type(None), list])
        self.assertIs(type(told), tuple)
        self.assertEqual(row.things(), [0])
        self.assertIs(type(row.things()), list)
        self.assertEqual(row.mark(one=0), 7)
        self.assertIs(row.is_ahead(one=0, other=0), False)
        self.assertEqual(row.purse(), 32)
        self.assertIs(row.take(one=0), None)

    def test_kinds_of_values_of_a_spreading(self):
        row = rows.Row(5)
        for one in (None, None, None, None, None):
            row.put(one)
        row.take(1)
        row.take(2)
        _, stretch, changed = row.put()
        self.assertIs(type(stretch), tuple)
        self.assertEqual(len(stretch), 2)
        self.assertIs(type(changed), list)
        for part in changed:
            self.assertIs(type(part), tuple)


if __name__ == "__main__":
    unittest.main()
