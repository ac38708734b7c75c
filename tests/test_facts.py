import unittest

from lateforms.facts import decided, learned

A, B = ("=", ("get", ("x",), 0), 1), ("none", ("l",))
LONGER = ("none", ("l", "m"))


class TestFacts(unittest.TestCase):
    """What is known of conditions that were evaluated; [31] depends on it."""

    def told(self, facts, *expected):
        self.assertEqual([decided(facts, one) for one in (A, B, LONGER, ("not", A), ("not", B))], list(expected))

    def test_nothing_is_known(self):
        self.told((), None, None, None, None, None)

    def test_a_condition(self):
        self.told(learned((), A, True), True, None, None, False, None)
        self.told(learned((), A, False), False, None, None, True, None)
        self.told(learned(learned((), A, False), B, True), False, True, True, True, False)

    def test_paths(self):
        self.told(learned((), B, True), None, True, True, None, False)
        self.told(learned((), B, False), None, False, None, None, True)
        self.told(learned((), LONGER, True), None, None, True, None, None)
        self.told(learned((), LONGER, False), None, False, False, None, True)
        self.assertIsNone(decided(learned((), B, True), ("none", ("m",))))
        self.assertIsNone(decided(learned((), B, True), ("not", ("none", ("m", "l")))))

    def test_not_and_and(self):
        self.told(learned((), ("not", A), True), False, None, None, True, None)
        self.told(learned((), ("not", ("not", A)), True), True, None, None, False, None)
        self.told(learned((), ("and", A, ("not", B)), True), True, False, None, False, True)
        self.told(learned((), ("and", A, B), False), None, None, None, None, None)
        self.told(learned((), ("not", ("and", A, B)), False), True, True, True, False, False)
        self.assertIs(decided(learned((), ("and", A, B), False), ("and", A, B)), False)


if __name__ == "__main__":
    unittest.main()
