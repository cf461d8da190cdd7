"""[9]: the refusals, their families and what they keep."""

import unittest

from forkjoins import errors

FAMILIES = {
    "PaperError": (("NoPaper", ("word", "at")),),
    "RunError": (("NoRevision", ("path",)), ("NoStep", ("word",)), ("NoBack", ("times",))),
    "TextError": (("NoText", ("line", "word")), ("NoLine", ("line",))),
}
REFUSALS = [(family, name, fields) for family, rows in FAMILIES.items() for name, fields in rows]


class Stubborn:
    """A thing that must not be looked at."""

    def refuse(self, *told):
        raise AssertionError("looked at")

    __eq__ = __len__ = __bool__ = __str__ = __repr__ = __iter__ = refuse


class Families(unittest.TestCase):
    def test_bases(self):
        self.assertEqual(errors.JoinError.__bases__, (ValueError,))
        for family in FAMILIES:
            self.assertEqual(getattr(errors, family).__bases__, (errors.JoinError,))
        for family, name, _ in REFUSALS:
            self.assertEqual(getattr(errors, name).__bases__, (getattr(errors, family),))

    def test_of_no_other_family_and_no_other_refusal(self):
        for family, name, fields in REFUSALS:
            made = getattr(errors, name)(*fields)
            self.assertIs(type(made), getattr(errors, name))
            for other in FAMILIES:
                self.assertEqual(isinstance(made, getattr(errors, other)), other == family)
            for _, other, _ in REFUSALS:
                self.assertEqual(isinstance(made, getattr(errors, other)), other == name)

    def test_taken_by_each_name(self):
        for family, name, fields in REFUSALS:
            for taken in (name, family, "JoinError"):
                with self.assertRaises(getattr(errors, taken)):
                    raise getattr(errors, name)(*fields)
            with self.assertRaises(ValueError):
                raise getattr(errors, name)(*fields)


class Fields(unittest.TestCase):
    def test_very_things_by_places_and_by_names(self):
        for _, name, fields in REFUSALS:
            made_of = [[field] for field in fields]
            by_name = dict(reversed(list(zip(fields, made_of))))
            for made in (getattr(errors, name)(*made_of), getattr(errors, name)(**by_name)):
                for field, thing in zip(fields, made_of):
                    self.assertIs(getattr(made, field), thing)

    def test_a_list_that_grows_is_still_the_same(self):
        for _, name, fields in REFUSALS:
            grows = []
            made = getattr(errors, name)(*[grows for _ in fields])
            grows.append(1)
            for field in fields:
                self.assertEqual(getattr(made, field), [1])
                self.assertIs(getattr(made, field), grows)

    def test_any_thing_is_kept_and_not_looked_at(self):
        for _, name, fields in REFUSALS:
            for thing in (None, True, -1, "", "way", (), ((1,), "a"), Stubborn()):
                made = getattr(errors, name)(*[thing for _ in fields])
                for field in fields:
                    self.assertIs(getattr(made, field), thing)

    def test_made_of_just_these(self):
        for _, name, fields in REFUSALS:
            with self.assertRaises(TypeError):
                getattr(errors, name)(*fields, "more")
            with self.assertRaises(TypeError):
                getattr(errors, name)(*fields[1:])
