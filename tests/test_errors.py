"""The errors of the interface."""

import unittest

from newsbooks import errors

KINDS = {
    "BadNumber": "name", "BadLot": "place", "BadRank": "place", "BadComparison": "place", "BadTable": "place",
    "BadCase": "place", "BadDeed": "place", "BadNews": "place", "BadFamily": "place", "BadFacts": "place",
    "BadSentence": "place", "BadOrder": "place", "BadClasses": "place", "BadPairs": "place",
    "BadDistance": "place", "BadRule": "place", "BadGroup": "place", "BadBase": "place", "BadWord": "word",
    "BadText": "line", "NotSo": "why", "OtherWorlds": "worlds", "TooMany": "limit",
}


class ErrorsTest(unittest.TestCase):
    def test_all_kinds(self):
        self.assertEqual(len(KINDS), 23)
        self.assertEqual(errors.NewsError.__bases__, (Exception,))
        for name, attribute in KINDS.items():
            kind = getattr(errors, name)
            with self.subTest(kind=name):
                self.assertEqual(kind.__bases__, (errors.NewsError,))
                for value in (7, "word"):
                    self.assertEqual(vars(kind(value)), {attribute: value})
                self.assertRaises(TypeError, kind)
                self.assertRaises(TypeError, kind, 1, 2)

    def test_one_kind_does_not_catch_another(self):
        kinds = [getattr(errors, name) for name in KINDS]
        for one in kinds:
            for other in kinds:
                self.assertEqual(issubclass(one, other), one is other)


if __name__ == "__main__":
    unittest.main()
