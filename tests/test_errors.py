import copy
import inspect
import unittest

from strandwright import errors

FIELDS = {
    "BadText": (), "Twice": ("name",), "Lacks": ("name",), "NoDeed": ("at",), "NotLet": ("book",), "NoName": ("name",),
    "Mixed": (), "TooMany": (), "NoPaper": ("word",), "NoKind": (), "NoRow": (),
}


class Errors(unittest.TestCase):
    def test_any_refusal_is_a_value_error(self):
        self.assertEqual(errors.StrandError.__bases__, (ValueError,))

    def test_each_stands_right_under_strand_error(self):
        for name in FIELDS:
            self.assertEqual(getattr(errors, name).__bases__, (errors.StrandError,), name)

    def test_each_is_made_of_its_fields(self):
        for name, fields in FIELDS.items():
            kind = getattr(errors, name)
            given = ["word%d" % k for k in range(len(fields))]
            for made in (kind(*given), kind(**dict(zip(fields, given)))):
                self.assertEqual(vars(made), dict(zip(fields, given)), name)
            self.assertEqual(list(inspect.signature(kind).parameters), list(fields), name)

    def test_the_number_of_a_deed_may_be_left_out(self):
        self.assertIsNone(errors.NoDeed().at)
        self.assertEqual(errors.NoDeed(0).at, 0)
        self.assertEqual(errors.NoDeed(at=59).at, 59)

    def test_the_others_want_their_field(self):
        for name, fields in FIELDS.items():
            if fields and name != "NoDeed":
                with self.assertRaises(TypeError):
                    getattr(errors, name)()

    def test_raised_it_is_taken_by_its_own_name_and_by_the_common_one(self):
        for name, fields in FIELDS.items():
            for taken in (getattr(errors, name), errors.StrandError, ValueError):
                with self.assertRaises(taken):
                    raise getattr(errors, name)(*fields)

    def test_a_copy_has_the_same_fields(self):
        for name, fields in FIELDS.items():
            made = getattr(errors, name)(*fields)
            self.assertEqual(vars(copy.copy(made)), vars(made))


if __name__ == "__main__":
    unittest.main()
