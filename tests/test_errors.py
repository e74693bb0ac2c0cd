import unittest

from relitgoals import errors

OF_GOAL_ERROR = {
    "InvalidLamps": ("given",),
    "InvalidSet": ("given",),
    "InvalidSentence": ("part",),
    "InvalidText": (),
    "InvalidHand": ("given",),
    "InvalidPlace": ("given",),
    "InvalidOwner": ("index",),
    "InvalidArrow": ("index",),
    "DeadEnd": ("origin",),
    "LampsDiffer": (),
    "BoardsDiffer": (),
    "TooMany": ("most",),
    "InvalidPlan": ("table",),
    "InvalidWalk": ("index",),
    "InvalidStep": ("room",),
    "NoTestBoard": (),
    "NotesEnough": ("many",),
    "InvalidName": ("name",),
    "DuplicateName": ("name",),
    "WrongKind": ("name",),
    "CapacityExceeded": ("limit",),
    "InvalidCommand": ("word",),
    "InvalidLimit": ("given",),
    "ParseError": ("line",),
}
PARAMETERS = {**OF_GOAL_ERROR, "UnknownName": ("name",), "NothingLeft": ()}
BASES = {**dict.fromkeys(OF_GOAL_ERROR, "GoalError"), "UnknownName": "Missing"}
VALUES = (0, 7, True, None, "", "moves", ("a", 1), (), ["a", ["b", None]], [])


def class_named(name):
    return getattr(errors, name)


class ErrorsTest(unittest.TestCase):
    def test_the_list_is_whole(self):
        found = [name for name, value in vars(errors).items() if isinstance(value, type)]
        self.assertEqual(sorted(found), sorted([*PARAMETERS, "GoalError", "Missing"]))

    def test_python_bases(self):
        self.assertEqual(errors.GoalError.__bases__, (ValueError,))
        self.assertEqual(errors.Missing.__bases__, (LookupError,))
        self.assertEqual(errors.NothingLeft.__bases__, (IndexError,))

    def test_own_bases(self):
        for name, base in BASES.items():
            with self.subTest(name):
                self.assertEqual(class_named(name).__bases__, (class_named(base),))

    def test_an_error_is_of_no_other_class(self):
        for name, parameters in PARAMETERS.items():
            error = class_named(name)(*["x"] * len(parameters))
            for other in [*PARAMETERS, "GoalError", "Missing"]:
                with self.subTest(name, other=other):
                    expected = other in (name, BASES.get(name))
                    self.assertEqual(isinstance(error, class_named(other)), expected)

    def test_tag(self):
        for name, parameters in PARAMETERS.items():
            with self.subTest(name):
                self.assertEqual(class_named(name)(*[3] * len(parameters)).tag, name)

    def test_base_classes_have_no_tag(self):
        self.assertFalse(hasattr(errors.GoalError("x"), "tag"))
        self.assertFalse(hasattr(errors.Missing("x"), "tag"))

    def test_attributes_by_position_and_by_name(self):
        for name, parameters in PARAMETERS.items():
            for parameter in parameters:
                for value in VALUES:
                    with self.subTest(name, value=value):
                        made = class_named(name)
                        for error in (made(value), made(**{parameter: value})):
                            self.assertEqual(getattr(error, parameter), value)
                            self.assertIs(type(getattr(error, parameter)), type(value))

    def test_wrong_numbers_of_arguments(self):
        for name, parameters in PARAMETERS.items():
            with self.subTest(name):
                with self.assertRaises(TypeError):
                    class_named(name)(*[1] * (len(parameters) + 1))
                if parameters:
                    with self.assertRaises(TypeError):
                        class_named(name)()

    def test_errors_copy_what_they_are_given(self):
        given = ["a", ["b"], ("c", ["d"])]
        error = errors.InvalidLamps(given)
        given[1].append("x")
        given[2][1].append("x")
        given.append("x")
        self.assertEqual(error.given, ["a", ["b"], ("c", ["d"])])

    def test_each_error_has_a_message(self):
        for name, parameters in PARAMETERS.items():
            with self.subTest(name):
                self.assertTrue(str(class_named(name)(*[1] * len(parameters))))


if __name__ == "__main__":
    unittest.main()
