import unittest

from cardshop.wheels import Wheel


class Wheels(unittest.TestCase):

    def told(self, wheel):
        return (wheel.amount(), wheel.ran_over(), wheel.shown())

    def test_it_begins_at_nought(self):
        for figures in range(1, 13):
            self.assertEqual(self.told(Wheel(figures)), (0, False, "0" * figures))

    def test_one_and_twelve_figures(self):
        for figures in [1, 6, 12]:
            power = 10 ** figures
            wheel = Wheel(figures)
            wheel.rise(0)
            self.assertEqual(self.told(wheel), (0, False, "0" * figures))
            wheel.rise(power - 1)
            self.assertEqual(self.told(wheel), (power - 1, False, "9" * figures))
            wheel.rise(0)
            self.assertEqual(self.told(wheel), (power - 1, False, "9" * figures))
            wheel.rise(1)
            self.assertEqual(self.told(wheel), (0, True, "0" * figures))
            wheel.rise(1)
            self.assertEqual(self.told(wheel), (1, True, "1".zfill(figures)))

    def test_noughts_ahead(self):
        wheel = Wheel(6)
        wheel.rise(123)
        self.assertEqual(wheel.shown(), "000123")
        wheel.rise(456000)
        self.assertEqual(self.told(wheel), (456123, False, "456123"))

    def test_to_the_power_itself_and_far_beyond(self):
        wheel = Wheel(3)
        wheel.rise(1000)
        self.assertEqual(self.told(wheel), (0, True, "000"))
        wheel = Wheel(3)
        wheel.rise(10 ** 60 + 42)
        self.assertEqual(self.told(wheel), (42, True, "042"))

    def test_run_over_stays_until_it_is_reset(self):
        wheel = Wheel(2)
        wheel.rise(150)
        wheel.rise(0)
        wheel.rise(3)
        self.assertEqual(self.told(wheel), (53, True, "53"))
        self.assertIsNone(wheel.reset())
        self.assertEqual(self.told(wheel), (0, False, "00"))
        wheel.rise(99)
        self.assertEqual(self.told(wheel), (99, False, "99"))

    def test_rise_gives_back_nothing(self):
        self.assertIsNone(Wheel(4).rise(7))

    def test_wheels_keep_to_themselves(self):
        one, other = Wheel(2), Wheel(2)
        one.rise(100)
        self.assertEqual(self.told(other), (0, False, "00"))


if __name__ == "__main__":
    unittest.main()
