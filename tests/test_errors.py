"""[2] and the interface: the refusals and their fields."""
import unittest

from freshparts.errors import (FreshError, NoAge, NoBeat, NoLines, NoName, NoPaper, NoRatio, NoRow, NoText,
                               TooMany)

FIELDS = (
    (NoRatio, ()),
    (NoAge, ("age",)),
    (NoBeat, ("beat",)),
    (NoPaper, ("word", "place")),
    (TooMany, ("word",)),
    (NoText, ("at",)),
    (NoLines, ("row", "word")),
    (NoName, ("name",)),
    (NoRow, ("row",)),
)


class Shy:
    """A thing that can't be looked at."""

    def refuse(self, *told):
        raise AssertionError("a refusal looked at what it was made of")

    __eq__ = __hash__ = __repr__ = __str__ = __bool__ = __len__ = __iter__ = refuse
    __copy__ = __deepcopy__ = __int__ = __index__ = __lt__ = __gt__ = refuse


def things():
    deep = []
    for turn in range(19):
        deep = [deep]
    return [0, -7, True, None, "", "a text", [1, [2]], (1, 2), {"a": [1]}, 10 ** 3999 + 1, -(10 ** 3999), deep,
            Shy()]


class Errors(unittest.TestCase):
    def test_fresh_error_is_made_of_a_text(self):
        error = FreshError("any refusal")
        self.assertIsInstance(error, ValueError)
        self.assertEqual(str(error), "any refusal")
        self.assertIs(FreshError.__mro__[1], ValueError)

    def test_all_are_under_fresh_error_and_none_under_another(self):
        kinds = [kind for kind, fields in FIELDS]
        for kind in kinds:
            self.assertTrue(issubclass(kind, FreshError), kind)
            self.assertEqual([other for other in kinds if issubclass(kind, other)], [kind])

    def test_fields_are_the_very_things_in_the_order_told(self):
        for kind, fields in FIELDS:
            for thing in things():
                made = [thing] + [["another"] for field in fields[1:]]
                error = kind(*made[:len(fields)])
                for field, given in zip(fields, made):
                    self.assertIs(getattr(error, field), given, (kind, field))

    def test_second_field_takes_any_thing_too(self):
        for kind, fields in FIELDS:
            if len(fields) == 2:
                for thing in things():
                    error = kind("first", thing)
                    self.assertIs(getattr(error, fields[1]), thing)
                    self.assertEqual(getattr(error, fields[0]), "first")

    def test_message_can_be_asked_for(self):
        for kind, fields in FIELDS:
            self.assertIsInstance(str(kind(*[Shy() for field in fields])), str)

    def test_each_is_caught_by_its_name_and_as_any_refusal(self):
        for kind, fields in FIELDS:
            made = [object() for field in fields]
            with self.assertRaises(kind) as caught:
                raise kind(*made)
            self.assertIs(type(caught.exception), kind)
            with self.assertRaises(FreshError):
                raise kind(*made)
            with self.assertRaises(ValueError):
                raise kind(*made)

    def test_a_list_that_is_changed_later_is_changed_in_the_refusal(self):
        rows = [1]
        error = NoRow(rows)
        rows.append(2)
        self.assertEqual(error.row, [1, 2])

    def test_two_refusals_keep_things_apart(self):
        one, other = NoPaper("low", 1), NoPaper("high", 2)
        self.assertEqual((one.word, one.place, other.word, other.place), ("low", 1, "high", 2))


if __name__ == "__main__":
    unittest.main()
