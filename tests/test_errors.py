import unittest

from figuredeeds import errors

FIELDS = [
    ("Fell", RuntimeError, {"word": "none"}),
    ("Open", RuntimeError, {}),
    ("NotOpen", RuntimeError, {}),
    ("BadPlay", ValueError, {"play": ((1, 1), (), (), ())}),
    ("BadLine", ValueError, {"line": 3}),
    ("NoOne", LookupError, {"figure": "cat", "number": 2}),
    ("NoTurn", IndexError, {"many": 9}),
    ("TooMany", OverflowError, {"most": 60}),
]


class Errors(unittest.TestCase):
    def test_each_stands_straight_under_its_class_alone(self):
        for name, base, _ in FIELDS:
            with self.subTest(name):
                self.assertEqual(getattr(errors, name).__bases__, (base,))

    def test_each_is_a_class_of_its_own_defined_there(self):
        made = [getattr(errors, name) for name, _, _ in FIELDS]
        self.assertEqual(len(set(made)), len(FIELDS))
        for error in made:
            self.assertEqual(error.__module__, "figuredeeds.errors")

    def test_fields_by_place_and_by_name(self):
        for name, _, fields in FIELDS:
            error = getattr(errors, name)
            for made in (error(*fields.values()), error(**fields)):
                with self.subTest(name):
                    self.assertEqual(vars(made), fields)

    def test_fields_are_wanted(self):
        for name, _, fields in FIELDS:
            error = getattr(errors, name)
            if fields:
                with self.subTest(name), self.assertRaises(TypeError):
                    error()

    def test_each_is_caught_by_its_own_name_and_by_pythons(self):
        for name, base, fields in FIELDS:
            for caught in (getattr(errors, name), base):
                with self.subTest(name), self.assertRaises(caught):
                    raise getattr(errors, name)(*fields.values())

    def test_a_bad_play_keeps_lists_but_not_the_askers(self):
        handed = [[1, [2]], (3, [4]), "text", None]
        error = errors.BadPlay(handed)
        self.assertEqual(error.play, [[1, [2]], (3, [4]), "text", None])
        handed[0][1].append(5)
        handed[1][1].append(5)
        handed.append(5)
        self.assertEqual(error.play, [[1, [2]], (3, [4]), "text", None])


if __name__ == "__main__":
    unittest.main()
