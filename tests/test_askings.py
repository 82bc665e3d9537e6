import unittest

from cardshop.askings import Asking, same_asking
from cardshop.errors import NoAsking

GOOD = {
    "deck": "sales",
    "picks": [((1, 2), "A "), ((2, 3), " 7")],
    "middle": ("mates", "people", (5, 7), (1, 3)),
    "order": [(5, 7), (10, 10), (12, 14), (9, 9)],
    "works": [((20, 22), (15, 16), "plus", (17, 18)), ((23, 25), (20, 22), "times", (17, 18))],
    "breaks": 2,
    "sums": [(20, 22), (23, 25), (1, 3)],
    "figures": 9,
    "board": [(5, 1), (40, 2), (20, 36)],
}
NAMES = ["deck", "picks", "middle", "order", "works", "breaks", "sums", "figures", "board"]


def asking(**parts):
    return Asking(**{**GOOD, **parts})


class Parts(unittest.TestCase):

    def test_each_part_as_told(self):
        made = asking()
        for name in NAMES:
            self.assertEqual(getattr(made, name), GOOD[name], name)

    def test_the_order_of_arguments(self):
        made = Asking(*[GOOD[name] for name in NAMES])
        for name in NAMES:
            self.assertEqual(getattr(made, name), GOOD[name], name)

    def test_what_is_left_out(self):
        made = Asking("a", [], None, [])
        self.assertEqual([getattr(made, name) for name in NAMES], ["a", [], None, [], [], 0, [], 6, []])

    def test_none_for_empty_lists(self):
        made = Asking("a", [], None, [], works=None, sums=None, board=None)
        for name in ["works", "sums", "board"]:
            self.assertEqual(getattr(made, name), [])
        self.assertIsNot(Asking("a", [], None, []).works, Asking("a", [], None, []).works)

    def test_lists_always(self):
        made = asking()
        for name in ["picks", "order", "works", "sums", "board"]:
            self.assertIsInstance(getattr(made, name), list)

    def test_what_was_handed_in_is_copied(self):
        handed = {name: list(part) if isinstance(part, list) else part for name, part in GOOD.items()}
        made = Asking(**handed)
        for name in ["picks", "order", "works", "sums", "board"]:
            handed[name].append("X")
            handed[name][0] = "Y"
        for name in NAMES:
            self.assertEqual(getattr(made, name), GOOD[name], name)


class Refusals(unittest.TestCase):

    def good(self, **parts):
        made = asking(**parts)
        for name, part in parts.items():
            self.assertEqual(getattr(made, name), [] if part is None and name != "middle" else part)

    def bad(self, **parts):
        with self.assertRaises(NoAsking, msg=parts):
            asking(**parts)

    def test_names(self):
        for name in ["a", "z", "abcdefgh", "people" + "x"]:
            self.good(deck=name)
        for name in ["", "abcdefghi", "A", "a1", "a b", " a", "a ", "a\n", "\u00e4", "\u0430", "a-", "-", "_", "aB",
                     "\u00aa", "\uff41"]:
            self.bad(deck=name)
            for word in ["mates", "without"]:
                self.bad(middle=(word, name, (5, 7), (1, 3)))
        for name in ["a", "abcdefgh"]:
            self.good(middle=("without", name, (5, 7), (1, 3)))

    def test_one_name_twice(self):
        for word in ["mates", "without"]:
            self.bad(middle=(word, "sales", (5, 7), (1, 3)))
            self.good(middle=(word, "sale", (5, 7), (1, 3)))

    def test_words_of_the_middle(self):
        self.good(middle=None)
        self.good(middle=("first", (5, 7)))
        self.good(middle=("without", "people", (5, 7), (1, 3)))
        for word in ["", "mate", "Mates", "firsts", "with", "none", "mates "]:
            for rest in [(), ((5, 7),), ("people",), ("people", (5, 7)), ("people", (5, 7), (1, 3)),
                         ("people", (5, 7), (1, 3), 4, 5)]:
                self.bad(middle=(word,) + rest)

    def test_a_middle_with_more_or_fewer_things_than_its_word_wants(self):
        for middle in [(), ("mates",), ("without", "people", (5, 7)), ("mates", "people", (5, 7), (1, 3), (1, 3)),
                       ("first",), ("first", (5, 7), (1, 3))]:
            self.bad(middle=middle)

    def test_fields(self):
        for pair in [(0, 1), (0, 0), (36, 37), (37, 37), (2, 1), (-1, 2), (1, 10 ** 60), (10 ** 60, 10 ** 60), (1, 41)]:
            self.bad(picks=[(pair, "AA")])
            self.bad(picks=[(pair, "A")])
            self.bad(picks=[(pair, "")])
            self.bad(middle=("mates", "people", pair, (1, 2)))
            self.bad(middle=("without", "people", (5, 6), pair))
            self.bad(middle=("mates", "people", pair, pair))
            self.bad(middle=("first", pair))
            self.bad(order=[(5, 6), (9, 9), pair])
            self.bad(works=[(pair, (15, 16), "plus", (17, 18))])
            self.bad(works=[((20, 22), pair, "plus", (17, 18))])
            self.bad(works=[((20, 22), (15, 16), "plus", pair)])
            self.bad(sums=[(1, 1), pair])
        self.good(order=[(1, 36), (36, 36)], works=None)
        self.good(sums=[(1, 36), (36, 36), (1, 1)])
        self.good(picks=[((36, 36), "A")])
        self.good(middle=("first", (1, 1)))

    def test_texts_of_picks(self):
        for text in ["A", "AAA", "", "aA", "A_", "A\n", "A\u0663", "A-", "A.", "\u00c4A"]:
            self.bad(picks=[((1, 2), text)])
        for text in ["AA", "  ", " 0", "Z9"]:
            self.good(picks=[((1, 2), text)])

    def test_unlike_widths(self):
        for word in ["mates", "without"]:
            self.bad(middle=(word, "people", (5, 7), (1, 2)))
            self.bad(middle=(word, "people", (5, 7), (1, 4)))
            self.good(middle=(word, "people", (5, 7), (34, 36)))
            self.good(middle=(word, "people", (5, 5), (9, 9)))

    def test_picks_of_one_column(self):
        self.bad(picks=[((1, 2), "AB"), ((2, 3), "CC")])
        self.bad(picks=[((1, 1), "A"), ((3, 3), "A"), ((1, 1), " ")])
        self.good(picks=[((1, 2), "AB"), ((2, 3), "BC")])
        self.good(picks=[((1, 1), "A"), ((1, 1), "A")])
        self.good(picks=[((1, 1), "A"), ((2, 2), "B")])

    def test_breaks(self):
        for breaks in [0, 1, 2, 3]:
            self.good(breaks=breaks)
        for breaks in [-1, 4, 10 ** 60]:
            self.bad(breaks=breaks)
        self.good(order=[(5, 7), (9, 9)], breaks=2)
        self.bad(order=[(5, 7), (9, 9)], breaks=3)
        self.good(order=[], breaks=0)
        self.bad(order=[], breaks=1)
        self.good(order=[(5, 5)] * 6, breaks=3)
        self.bad(order=[(5, 5)] * 6, breaks=4)

    def test_figures(self):
        for figures in [1, 2, 11, 12]:
            self.good(figures=figures)
        for figures in [0, -1, 13, 10 ** 60]:
            self.bad(figures=figures)

    def test_words_of_works(self):
        for word in ["plus", "less", "times"]:
            self.good(works=[((20, 22), (15, 16), word, (17, 18))])
        for word in ["", "minus", "Plus", "over", "plus "]:
            self.bad(works=[((20, 22), (15, 16), word, (17, 18))])
            self.bad(works=GOOD["works"] + [((30, 30), (15, 16), word, (17, 18))])

    def work_to(self, to, **parts):
        return dict(works=[(to, (15, 16), "plus", (17, 18))], **parts)

    def test_a_work_apart_from_picks(self):
        plain = dict(middle=None, order=[], breaks=0)
        self.bad(**self.work_to((20, 22), picks=[((22, 23), "AB")], **plain))
        self.bad(**self.work_to((20, 22), picks=[((1, 1), "A"), ((21, 21), "A")], **plain))
        self.good(**self.work_to((20, 22), picks=[((23, 24), "AB"), ((19, 19), "A")], **plain))

    def test_a_work_apart_from_the_middles_first_field(self):
        plain = dict(picks=[], order=[], breaks=0)
        for word in ["mates", "without"]:
            self.bad(**self.work_to((20, 22), middle=(word, "b", (22, 23), (1, 2)), **plain))
            self.good(**self.work_to((20, 22), middle=(word, "b", (23, 24), (1, 2)), **plain))
            # The other field is one of other cards.
            self.good(**self.work_to((20, 22), middle=(word, "b", (1, 2), (21, 22)), **plain))
        self.bad(**self.work_to((20, 22), middle=("first", (18, 20)), **plain))
        self.good(**self.work_to((20, 22), middle=("first", (17, 19)), **plain))

    def test_a_work_apart_from_each_key(self):
        plain = dict(picks=[], middle=None, breaks=0)
        self.bad(**self.work_to((20, 22), order=[(22, 22)], **plain))
        self.bad(**self.work_to((20, 22), order=[(1, 1), (2, 2), (1, 36)], **plain))
        self.good(**self.work_to((20, 22), order=[(23, 36), (1, 19)], **plain))

    def test_a_work_apart_from_other_works(self):
        one, other = (15, 16), (17, 18)
        self.bad(works=[((20, 22), one, "plus", other), ((22, 24), one, "plus", other)])
        self.bad(works=[((20, 22), one, "plus", other), ((20, 22), one, "plus", other)])
        self.good(works=[((20, 22), one, "plus", other), ((23, 24), one, "plus", other)])
        # Fields of its own work.
        self.bad(works=[((16, 19), one, "plus", (30, 30))])
        self.bad(works=[((16, 19), (30, 30), "plus", other)])
        self.good(works=[((17, 19), one, "plus", (30, 30))])
        # Fields of a work ahead of it, but not of one behind it.
        self.bad(works=[((20, 22), (30, 31), "plus", other), ((31, 33), one, "plus", other)])
        self.bad(works=[((20, 22), one, "plus", (30, 31)), ((34, 34), one, "plus", one), ((31, 33), one, "plus", one)])
        self.good(works=[((20, 22), (30, 31), "plus", other), ((32, 33), one, "plus", other)])
        self.good(works=[((31, 33), one, "plus", other), ((20, 22), (30, 31), "plus", other)])
        self.good(works=[((31, 33), one, "plus", other), ((20, 22), one, "plus", (30, 31))])

    def test_a_work_may_share_with_sums(self):
        self.good(**self.work_to((20, 22), sums=[(20, 22), (19, 23)]))

    def test_boards(self):
        self.good(board=[])
        self.good(board=None)
        self.good(board=[(40, 1), (1, 36)])
        self.good(board=[(1, 1), (1, 2)])
        for board in [[(1, 2), (1, 1)], [(1, 1), (2, 1)], [(1, 1), (1, 1)], [(0, 1)], [(41, 1)], [(1, 0)], [(1, 37)],
                      [(1, 1), (1, 3), (1, 2)]]:
            self.bad(board=board)

    def test_how_many(self):
        self.good(picks=[((1, 1), "A")] * 8)
        self.bad(picks=[((1, 1), "A")] * 9)
        self.good(order=[(5, 5)] * 6)
        self.bad(order=[(5, 5)] * 7)
        works = [((20 + place, 20 + place), (15, 16), "plus", (17, 18)) for place in range(5)]
        self.good(works=works[:4])
        self.bad(works=works)
        self.good(sums=[(1, 1)] * 4)
        self.bad(sums=[(1, 1)] * 5)


class SameAsking(unittest.TestCase):

    def test_alike(self):
        one = asking()
        self.assertIs(same_asking(one, one), True)
        self.assertIs(same_asking(one, asking()), True)
        self.assertIs(same_asking(Asking("a", [], None, []), Asking("a", [], None, [], [], 0, [], 6, [])), True)

    def test_unlike_in_each_part_alone(self):
        others = {
            "deck": ["sale"],
            "picks": [[], GOOD["picks"][::-1], [((1, 2), "A "), ((2, 3), " 8")]],
            "middle": [None, ("without", "people", (5, 7), (1, 3)), ("mates", "folk", (5, 7), (1, 3)),
                       ("mates", "people", (6, 8), (1, 3)), ("mates", "people", (5, 7), (2, 4)), ("first", (5, 7))],
            "order": [GOOD["order"][:3], GOOD["order"][::-1]],
            "works": [None, GOOD["works"][:1], [((20, 22), (15, 16), "less", (17, 18)), GOOD["works"][1]]],
            "breaks": [0, 1, 3],
            "sums": [None, GOOD["sums"][::-1]],
            "figures": [8, 10],
            "board": [None, [(5, 1), (40, 2), (20, 35)]],
        }
        self.assertEqual(sorted(others), sorted(NAMES))
        for name in NAMES:
            for part in others[name]:
                self.assertIs(same_asking(asking(), asking(**{name: part})), False, (name, part))
                self.assertIs(same_asking(asking(**{name: part}), asking()), False, (name, part))


if __name__ == "__main__":
    unittest.main()
