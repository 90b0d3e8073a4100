"""[0.2] and the interface of plateheaps/errors.py."""

import unittest

from plateheaps import errors

PLAIN = ["BadPlace", "BadDirection", "BadHalf", "NoPlaces", "TooMany", "NotClosed", "BadDeed", "NothingDone"]
BEARING = [
    ("BadRow", ["number"]), ("BadText", ["place"]), ("BadTable", ["direction", "height"]),
    ("NoUndoing", ["direction"]), ("TooLong", ["direction"]), ("NotWhole", ["place"]), ("BadName", ["name"]),
]
MISSING = [("UnknownName", ["name"]), ("NoMoment", ["number"])]


def class_of(name):
    return getattr(errors, name)


class Families(unittest.TestCase):
    def test_the_two_roots(self):
        self.assertEqual(errors.HeapError.__bases__, (ValueError,))
        self.assertEqual(errors.Missing.__bases__, (LookupError,))

    def test_each_lies_directly_beneath_its_root(self):
        for name in PLAIN + [name for name, _ in BEARING]:
            self.assertEqual(class_of(name).__bases__, (errors.HeapError,), name)
        for name, _ in MISSING:
            self.assertEqual(class_of(name).__bases__, (errors.Missing,), name)

    def test_no_others_lie_beneath_one_another(self):
        names = PLAIN + [name for name, _ in BEARING + MISSING]
        for one in names:
            for other in names:
                self.assertEqual(issubclass(class_of(one), class_of(other)), one == other, (one, other))
        self.assertFalse(issubclass(errors.HeapError, LookupError))
        self.assertFalse(issubclass(errors.Missing, ValueError))

    def test_all_are_defined_there(self):
        for name in PLAIN + [name for name, _ in BEARING + MISSING]:
            self.assertEqual(class_of(name).__module__, "plateheaps.errors")


class Bearing(unittest.TestCase):
    def test_plain_errors_take_nothing(self):
        for name in PLAIN:
            with self.assertRaises(errors.HeapError):
                raise class_of(name)()

    def test_arguments_are_kept_under_their_names(self):
        for name, parts in BEARING + MISSING:
            told = [("told", k) for k in range(len(parts))]
            error = class_of(name)(*told)
            self.assertEqual([getattr(error, part) for part in parts], told, name)

    def test_each_value_is_borne_as_it_is(self):
        for worth in (None, True, False, 0, 1, "", "a", (), [], {}, (1, [True, {"a": (False,)}])):
            error = errors.BadName(worth)
            self.assertEqual(repr(error.name), repr(worth))

    def test_lists_and_dicts_are_borne_as_copies(self):
        for name, parts in BEARING + MISSING:
            for at in range(len(parts)):
                told = [None] * len(parts)
                inner, table = [1, True], {"a": [2]}
                told[at] = [inner, (inner, table), table]
                error = class_of(name)(*told)
                before = repr(getattr(error, parts[at]))
                self.assertEqual(before, repr(told[at]))
                inner.append(3)
                table["a"].append(4)
                table["b"] = 5
                told[at].append(6)
                self.assertEqual(repr(getattr(error, parts[at])), before, name)

    def test_changing_what_is_borne_changes_no_argument(self):
        name = [["a"], {"b": []}]
        error = errors.UnknownName(name)
        error.name[0].append("c")
        error.name[1]["b"].append(1)
        self.assertEqual(name, [["a"], {"b": []}])

    def test_values_thirty_deep(self):
        deep = []
        for _ in range(30):
            deep = [deep, {"in": (deep,)}] if len(repr(deep)) < 500 else [deep]
        self.assertEqual(errors.NoMoment(deep).number, deep)


if __name__ == "__main__":
    unittest.main()
