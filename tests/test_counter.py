import unittest

from cardshop.counter import Counter, lines_of, may_run_over

PLAIN = [(column, column) for column in range(1, 37)]


def card(text, mark):
    return text.ljust(36) + mark


def line(text, mark):
    return f"{mark} {text.ljust(36)}"


class Lines(unittest.TestCase):

    def test_no_card(self):
        self.assertEqual(lines_of([], [], [], 6, []), ["*"])
        self.assertEqual(lines_of([], [(1, 2)], [(3, 4)], 6, []), ["** 000000"])
        self.assertEqual(lines_of([], [(1, 1), (2, 2)], [(3, 4), (5, 6)], 2, []), ["*** 00 00"])
        self.assertEqual(lines_of([], [(1, 1), (2, 2), (3, 3)], [], 2, []), ["****"])

    def test_no_break_field(self):
        deck = [card("A 7", "0001"), card("B12", "0002")]
        self.assertEqual(lines_of(deck, [], [(2, 3)], 4, PLAIN),
                         [line("A 7", "0001"), line("B12", "0002"), "* 0019"])
        self.assertEqual(lines_of(deck, [], [], 4, PLAIN), [line("A 7", "0001"), line("B12", "0002"), "*"])

    def test_the_very_lines_of_one_break_field(self):
        deck = [card("AB100", "0001"), card("AB023", "0002"), card("CD333", "0003")]
        self.assertEqual(lines_of(deck, [(1, 2)], [(3, 5)], 6, [(1, 1)]), [
            line("A", "0001"), line("A", "0002"), "* AB 000123",
            line("C", "0003"), "* CD 000333", "** 000456"])

    def test_a_card_line_has_41_signs_and_the_mark_ahead(self):
        deck = [card("", "    "), "X" * 36 + "1 Z "]
        lines = lines_of(deck, [], [], 1, [(40, 1), (37, 2), (1, 36)])
        self.assertEqual(lines[0], " " * 41)
        self.assertEqual(lines[1], "1 Z " + " " + " 1" + " " * 33 + "X")
        self.assertEqual([len(row) for row in lines], [41, 41, 1])

    def test_two_break_fields(self):
        deck = [card("AX1", "0001"), card("AX2", "0002"), card("AY3", "0003"), card("BY4", "0004")]
        self.assertEqual(lines_of(deck, [(1, 1), (2, 2)], [(3, 3)], 2, PLAIN), [
            line("AX1", "0001"), line("AX2", "0002"),
            "* A X 03",
            line("AY3", "0003"),
            "* A Y 03", "** A 06",
            line("BY4", "0004"),
            "* B Y 04", "** B 04", "*** 10"])

    def test_three_break_fields_with_a_change_in_each(self):
        deck = [card("AXP1", "0001"), card("AXQ2", "0002"), card("AYQ3", "0003"), card("BYQ4", "0004"),
                card("BYQ5", "0005")]
        self.assertEqual(lines_of(deck, [(1, 1), (2, 2), (3, 3)], [(4, 4)], 3, PLAIN), [
            line("AXP1", "0001"),
            "* A X P 001",
            line("AXQ2", "0002"),
            "* A X Q 002", "** A X 003",
            line("AYQ3", "0003"),
            "* A Y Q 003", "** A Y 003", "*** A 006",
            line("BYQ4", "0004"), line("BYQ5", "0005"),
            "* B Y Q 009", "** B Y 009", "*** B 009", "**** 015"])

    def test_the_outermost_change_decides(self):
        deck = [card("AX1", "0001"), card("BX2", "0002"), card("BX2", "0003")]
        self.assertEqual(lines_of(deck, [(1, 1), (2, 2)], [], 2, []), [
            line("", "0001"), "* A X", "** A", line("", "0002"), line("", "0003"), "* B X", "** B", "***"])

    def test_parts_are_those_of_the_card_before(self):
        deck = [card("ZZ9", "0001"), card("A 1", "0002")]
        self.assertEqual(lines_of(deck, [(1, 2)], [(3, 3)], 1, PLAIN), [
            line("ZZ9", "0001"), "* ZZ 9", line("A 1", "0002"), "* A  1", "** 0"])

    def test_a_part_that_comes_again_is_a_new_group(self):
        deck = [card("A1", "0001"), card("B2", "0002"), card("A3", "0003")]
        self.assertEqual(lines_of(deck, [(1, 1)], [(2, 2)], 1, []), [
            line("", "0001"), "* A 1", line("", "0002"), "* B 2", line("", "0003"), "* A 3", "** 6"])

    def test_several_sum_fields_and_one_twice(self):
        deck = [card("A1234", "0001"), card("A 9X9", "0002")]
        self.assertEqual(lines_of(deck, [(1, 1)], [(2, 3), (4, 5), (2, 3), (1, 5)], 5, []), [
            line("", "0001"), line("", "0002"), "* A 00021 00043 00021 02143", "** 00021 00043 00021 02143"])

    def test_feed_and_finish_tell_what_is_printed_then(self):
        counter = Counter([(1, 1)], [(2, 2)], 2, [])
        self.assertEqual(counter.feed(card("A1", "0001")), [line("", "0001")])
        self.assertEqual(counter.feed(card("A2", "0002")), [line("", "0002")])
        self.assertEqual(counter.feed(card("B3", "0003")), ["* A 03", line("", "0003")])
        self.assertEqual(counter.finish(), ["* B 03", "** 06"])
        self.assertEqual(Counter([(1, 1)], [(2, 2)], 2, []).finish(), ["** 00"])

    def test_break_fields_that_overlap(self):
        deck = [card("AB", "0001"), card("AC", "0002")]
        self.assertEqual(lines_of(deck, [(1, 2), (1, 1)], [], 2, []), [
            line("", "0001"), "* AB A", "** AB", line("", "0002"), "* AC A", "** AC", "***"])

    def test_what_was_handed_in_stays_and_is_kept_apart(self):
        breaks, sums, board, deck = [(1, 1)], [(2, 2)], [(1, 1)], [card("A1", "0001")]
        lines = lines_of(deck, breaks, sums, 2, board)
        lines.append("X")
        self.assertEqual((breaks, sums, board, deck), ([(1, 1)], [(2, 2)], [(1, 1)], [card("A1", "0001")]))
        counter = Counter(breaks, sums, 2, board)
        breaks.append((3, 3))
        sums.clear()
        board.append((2, 2))
        told = counter.feed(card("A1", "0001"))
        told.append("X")
        self.assertEqual(counter.feed(card("A2", "0002")), [line("A", "0002")])
        self.assertEqual(counter.finish(), ["* A 03", "** 03"])


class Overs(unittest.TestCase):

    def fed(self, counter, texts):
        told = []
        for text in texts:
            counter.feed(card(text, "0000"))
            told.append(counter.overs())
        counter.finish()
        told.append(counter.overs())
        return told

    def test_none(self):
        counter = Counter([(1, 1)], [(2, 2), (3, 3)], 1, [])
        self.assertEqual(counter.overs(), [])
        self.assertEqual(self.fed(counter, ["A45", "A54"]), [[], [], []])

    def test_the_outermost_level_raises_no_other(self):
        for breaks in [[], [(1, 1)], [(1, 1), (3, 3)]]:
            self.assertEqual(self.fed(Counter(breaks, [(2, 2)], 1, []), ["A6"]), [[], []])

    def test_a_card_runs_a_wheel_over(self):
        counter = Counter([(1, 1)], [(2, 2), (3, 3)], 1, [])
        self.assertEqual(self.fed(counter, ["A 5", "A 5", "A5 ", "A5 "]), [[], [1], [1], [0, 1], [0, 1]])

    def test_a_card_wider_than_the_wheel(self):
        counter = Counter([], [(1, 3), (4, 6)], 2, [])
        self.assertEqual(self.fed(counter, ["   099", "   001", "100   "]), [[], [1], [0, 1], [0, 1]])

    def test_another_level_runs_a_wheel_over(self):
        # No group reaches 10, but both together do: level 1 raises level 0 as the second total is printed.
        counter = Counter([(1, 1)], [(2, 2)], 1, [])
        self.assertEqual(self.fed(counter, ["A6", "B6"]), [[], [], [0]])
        # As the second level's totals are printed, ahead of the third card, level 1 runs over.
        counter = Counter([(1, 1), (2, 2)], [(4, 4), (3, 3)], 1, [])
        self.assertEqual(self.fed(counter, ["AX6 ", "AY6 ", "AZ  "]), [[], [], [1], [1]])

    def test_a_wheel_raises_the_next_by_what_it_shows(self):
        deck = [card("A9", "0001"), card("A9", "0002"), card("B1", "0003")]
        self.assertEqual(lines_of(deck, [(1, 1)], [(2, 2)], 1, [])[-3:], [line("", "0003"), "* B 1", "** 9"])
        counter = Counter([(1, 1)], [(2, 2)], 1, [])
        self.assertEqual(self.fed(counter, ["A9", "A9", "B1"]), [[], [0], [0], [0]])

    def test_ever_though_the_wheels_are_reset(self):
        counter = Counter([(1, 1)], [(2, 2)], 1, [])
        self.assertEqual(self.fed(counter, ["A9", "A1", "B0", "C0"]), [[], [0], [0], [0], [0]])

    def test_what_is_told_is_the_askers_own(self):
        counter = Counter([], [(1, 1)], 1, [])
        counter.feed(card("9", "0001"))
        told = counter.overs()
        counter.feed(card("9", "0002"))
        self.assertEqual(told, [])
        counter.overs().append(7)
        self.assertEqual(counter.overs(), [0])


class ToldAhead(unittest.TestCase):

    def test_just_below_and_just_at_the_power(self):
        # 9 times 11 is 99; 9 times 12 is 108.
        self.assertEqual(may_run_over([(1, 1)], 2, 11), [False])
        self.assertEqual(may_run_over([(1, 1)], 2, 12), [True])
        # 99 times 101 is 9999.
        self.assertEqual(may_run_over([(5, 6)], 4, 101), [False])
        self.assertEqual(may_run_over([(5, 6)], 4, 102), [True])
        self.assertEqual(may_run_over([(1, 12)], 12, 1), [False])
        self.assertEqual(may_run_over([(1, 12)], 12, 2), [True])
        self.assertEqual(may_run_over([(1, 13)], 12, 1), [True])

    def test_many_nought(self):
        self.assertEqual(may_run_over([(1, 36), (1, 1)], 1, 0), [False, False])

    def test_no_sum_fields(self):
        self.assertEqual(may_run_over([], 1, 10 ** 50), [])

    def test_one_for_each_sum_field(self):
        self.assertEqual(may_run_over([(1, 1), (1, 2), (4, 4), (1, 36)], 2, 2), [False, True, False, True])
        for told in may_run_over([(1, 1), (1, 36)], 2, 2):
            self.assertIsInstance(told, bool)

    def test_so_it_is(self):
        for width in [1, 2]:
            field = (1, width)
            for figures in [1, 2, 3]:
                for many in range(120):
                    counter = Counter([(36, 36)], [field], figures, [])
                    for number in range(many):
                        counter.feed("9" * width + "0" * (35 - width) + "AB"[number % 2] + "0000")
                    counter.finish()
                    self.assertEqual(counter.overs() == [0], may_run_over([field], figures, many)[0])


if __name__ == "__main__":
    unittest.main()
