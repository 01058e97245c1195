import unittest

from oddreel.errors import NotNow, ReelError


class Errors(unittest.TestCase):
    def test_what_stands_under_what(self):
        self.assertEqual(ReelError.__bases__, (ValueError,))
        self.assertEqual(NotNow.__bases__, (ReelError,))

    def test_a_refusal_is_taken_by_each_class_above_it(self):
        for above in (NotNow, ReelError, ValueError):
            with self.subTest(above=above):
                with self.assertRaises(above):
                    raise NotNow("not now")

    def test_a_reel_error_is_not_taken_by_not_now(self):
        self.assertNotIsInstance(ReelError("wrong"), NotNow)


if __name__ == "__main__":
    unittest.main()
