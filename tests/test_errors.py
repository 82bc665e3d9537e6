import unittest

from cardshop.errors import (Meet, NoAsking, NoBoard, NoCard, NoField, NoOrder, NoPlan, NoRow, NoTray,
                             ShopError)

PLAIN = [NoCard, NoField, NoBoard, NoAsking, NoTray, NoPlan, NoRow]
REFUSALS = PLAIN + [NoOrder, Meet]


def made(refusal):
    if refusal is NoOrder:
        return NoOrder(1, 0)
    if refusal is Meet:
        return Meet((1, 2), (3, 2))
    return refusal("refused")


class Errors(unittest.TestCase):

    def test_shop_error_stands_under_value_error(self):
        self.assertEqual(ShopError.__bases__, (ValueError,))

    def test_each_stands_right_under_shop_error(self):
        for refusal in REFUSALS:
            self.assertEqual(refusal.__bases__, (ShopError,), refusal)

    def test_none_stands_under_another(self):
        for one in REFUSALS:
            for other in REFUSALS:
                self.assertEqual(issubclass(one, other), one is other, (one, other))

    def test_each_is_taken_by_itself_by_shop_error_and_by_value_error(self):
        for refusal in REFUSALS:
            for taker in [refusal, ShopError, ValueError]:
                with self.assertRaises(taker):
                    raise made(refusal)

    def test_plain_ones_can_be_raised_without_words(self):
        for refusal in PLAIN + [ShopError]:
            with self.assertRaises(refusal):
                raise refusal

    def test_fields_of_no_order(self):
        error = NoOrder(2, 17)
        self.assertEqual((error.deck, error.place), (2, 17))

    def test_fields_of_meet(self):
        error = Meet((40, 36), (1, 36))
        self.assertEqual((error.one, error.other), ((40, 36), (1, 36)))

    def test_fields_by_the_names_of_the_arguments(self):
        error = NoOrder(place=3, deck=1)
        self.assertEqual((error.deck, error.place), (1, 3))
        error = Meet(other=(5, 6), one=(7, 6))
        self.assertEqual((error.one, error.other), ((7, 6), (5, 6)))

    def test_fields_when_taken(self):
        try:
            raise NoOrder(1, 5)
        except ShopError as error:
            self.assertEqual((error.deck, error.place), (1, 5))


if __name__ == "__main__":
    unittest.main()
