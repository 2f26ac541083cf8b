"""The error classes: the class of Python's own each is under, and its field."""

import unittest

from manyruns import errors

# Each class's name, the class of Python's own, the field, things it may have.
WITH_FIELD = (
    ("BadTable", ValueError, "part", ("states", "moves", "begins", "shows")),
    ("BadRow", ValueError, "row", (0, 3, 200)),
    ("BadText", ValueError, "text", ("", "all p : p.a", "x\ny")),
    ("BadKind", ValueError, "kind", ("all", "some", "answer", "ever")),
    ("TooGreat", OverflowError, "many", (9, 1025, 2 ** 20000)),
    ("NoState", KeyError, "name", ("a", "abcdefgh")),
    ("NoSaying", KeyError, "name", ("a", "abcdefgh")),
    ("NoMove", LookupError, "move", (("a", "b"), ("b", "b"))),
    ("NoDeed", LookupError, "many", (1, 61, 10 ** 6000)),
    ("LastMove", RuntimeError, "state", ("a", "abcdefgh")),
    ("Known", RuntimeError, "name", ("a", ("a", "b"))),
)
WITHOUT_FIELD = (
    ("NoMend", LookupError),
    ("LastBegin", RuntimeError),
)


class ErrorsTest(unittest.TestCase):

    def test_made_by_place_and_by_name_with_the_field(self):
        for name, _, field, things in WITH_FIELD:
            made = getattr(errors, name)
            for thing in things:
                with self.subTest(name=name, kind=type(thing)):
                    for error in (made(thing), made(**{field: thing})):
                        self.assertEqual(getattr(error, field), thing)
                        self.assertIs(type(getattr(error, field)), type(thing))

    def test_not_made_without_the_field_or_with_more(self):
        for name, _, field, things in WITH_FIELD:
            made = getattr(errors, name)
            with self.subTest(name=name):
                with self.assertRaises(TypeError):
                    made()
                with self.assertRaises(TypeError):
                    made(things[0], things[0])
                with self.assertRaises(TypeError):
                    made(**{field + "s": things[0]})

    def test_made_with_nothing_where_no_field_is_told(self):
        for name, _ in WITHOUT_FIELD:
            with self.subTest(name=name):
                error = getattr(errors, name)()
                self.assertEqual(vars(error), {})

    def test_straight_under_the_class_of_pythons_own(self):
        for name, base, *_ in WITH_FIELD + WITHOUT_FIELD:
            with self.subTest(name=name):
                self.assertEqual(getattr(errors, name).__bases__, (base,))

    def test_there_are_no_other_classes(self):
        told = [row[0] for row in WITH_FIELD + WITHOUT_FIELD]
        there = [name for name, thing in vars(errors).items() if isinstance(thing, type)]
        self.assertEqual(sorted(there), sorted(told))

    def test_none_is_caught_as_another_of_the_program(self):
        made = [getattr(errors, row[0]) for row in WITH_FIELD + WITHOUT_FIELD]
        for one in made:
            for other in made:
                with self.subTest(one=one, other=other):
                    self.assertEqual(issubclass(one, other), one is other)

    def test_each_is_raised_and_caught_with_its_field(self):
        for name, base, field, things in WITH_FIELD:
            for thing in things:
                with self.subTest(name=name, kind=type(thing)):
                    with self.assertRaises(base) as caught:
                        raise getattr(errors, name)(thing)
                    self.assertEqual(getattr(caught.exception, field), thing)
        for name, base in WITHOUT_FIELD:
            with self.subTest(name=name):
                with self.assertRaises(base):
                    raise getattr(errors, name)()

    def test_two_of_one_class_keep_their_own_fields(self):
        for name, _, field, things in WITH_FIELD:
            made = [getattr(errors, name)(thing) for thing in things]
            with self.subTest(name=name):
                self.assertEqual([getattr(error, field) for error in made], list(things))


if __name__ == "__main__":
    unittest.main()
