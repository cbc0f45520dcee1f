"""Promise [2] and errors.py: the errors, their fields, and which stands below which."""

import unittest

from anything import Case, any_values
from rowcounts import errors
from rowcounts.questions import Table, Times

GROUPS = {
    "BadInput": {
        "BadBag": ("part",), "BadBase": ("part",), "BadBook": ("at",), "BadBounds": ("at",), "BadCounts": ("part",),
        "BadForm": ("part",), "BadLine": ("word",), "BadName": ("value",), "BadNumber": ("value",),
        "BadPlan": ("part",), "BadQuestion": ("part",), "BadRewrite": ("part",), "BadRow": ("part",),
        "BadRule": ("part",), "BadStore": ("part",), "BadTest": ("part",), "BadText": ("line", "word"),
    },
    "Refused": {
        "Breaks": ("rule",), "NoColumn": ("name",), "NoFit": ("place",), "NoPlace": ("place",), "NoRow": ("row",),
        "NoTable": ("name",), "TooMany": ("what", "most"), "Unlike": ("paper",),
    },
    "NoAnswer": {"NoDeed": (), "AtRow": ("row",)},
}

FIELDS = {name: fields for group in GROUPS.values() for name, fields in group.items()}


class ErrorsTest(Case):

    def test_each_error_stands_below_its_group_alone(self):
        self.assertEqual(errors.CountError.__mro__, (errors.CountError, *ValueError.__mro__))
        for group, names in GROUPS.items():
            above = getattr(errors, group)
            self.assertEqual(above.__mro__, (above, *errors.CountError.__mro__))
            for name in names:
                error = getattr(errors, name)
                self.assertEqual(error.__mro__, (error, *above.__mro__))

    def test_there_are_no_further_errors(self):
        found = {name for name, value in vars(errors).items() if isinstance(value, type)}
        self.assertEqual(found, {"CountError", *GROUPS, *FIELDS})

    def test_fields_by_place(self):
        for name, fields in FIELDS.items():
            for value in any_values():
                told = [(value, at) for at in range(len(fields))]
                error = getattr(errors, name)(*told)
                self.assertEqual(list(vars(error)), list(fields))
                for field, one in zip(fields, told):
                    self.same(getattr(error, field), one)

    def test_fields_by_name(self):
        for name, fields in FIELDS.items():
            for value in any_values():
                told = {field: [value] for field in reversed(fields)}
                error = getattr(errors, name)(**told)
                for field in fields:
                    self.same(getattr(error, field), told[field])

    def test_what_is_done_to_a_field_later_has_no_effect(self):
        for name, fields in FIELDS.items():
            told = {field: [5, {"a": [field]}] for field in fields}
            error = getattr(errors, name)(**told)
            for field in fields:
                told[field][1]["a"].clear()
                told[field].pop()
                self.same(getattr(error, field), [5, {"a": [field]}])

    def test_what_is_done_later_to_a_refused_value_has_no_effect(self):
        name, number = ["a"], {"a": [1]}
        for error, ask, value in ((errors.BadName, lambda: Table(name), name),
                                  (errors.BadNumber, lambda: Times(number, Table("a")), number)):
            with self.assertRaises(error) as caught:
                ask()
            value.clear()
            self.same(caught.exception.value, ["a"] if error is errors.BadName else {"a": [1]})

    def test_all_fields_are_needed(self):
        for name, fields in FIELDS.items():
            if fields:
                with self.assertRaises(TypeError):
                    getattr(errors, name)(*range(len(fields) - 1))
                with self.assertRaises(TypeError):
                    getattr(errors, name)(*range(len(fields) + 1))

    def test_errors_can_be_raised_and_caught(self):
        for name, fields in FIELDS.items():
            with self.assertRaises(errors.CountError):
                raise getattr(errors, name)(*fields)


if __name__ == "__main__":
    unittest.main()
