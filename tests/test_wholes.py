"""Point 2: what an integer is."""

import unittest

from retryslots import wholes
from retryslots.wholes import is_integer
from tests.samples import no_integers


class Wholes(unittest.TestCase):
    def test_integers(self):
        for value in (0, 1, -1, 2, 10 ** 30, -10 ** 30, 10 ** 3000):
            self.assertIs(is_integer(value), True)

    def test_other_objects(self):
        for value in no_integers():
            self.assertIs(is_integer(value), False)

    def test_argument_by_name(self):
        self.assertIs(is_integer(value=3), True)

    def test_is_defined_in_its_file(self):
        self.assertEqual(wholes.is_integer.__module__, "retryslots.wholes")


if __name__ == "__main__":
    unittest.main()
