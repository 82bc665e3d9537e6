import unittest

from cardshop.cards import card_of
from cardshop.desk import Desk
from cardshop.errors import Meet, NoAsking, NoBoard, NoCard, NoField, NoOrder, NoRow, NoTray

PLAIN = "order; break 0; sum in 6; print"
ALL = "1-36>1-36"


def deck_of_texts(texts):
    return [card_of(text) for text in texts]


class OnDesk(unittest.TestCase):

    def setUp(self):
        self.desk = Desk()
        self.names = ["a", "b", "c", "n", "abcdefgh"]

    def say(self, *rows):
        for row in rows:
            self.assertEqual(self.desk.say(row), [], row)

    def trays(self):
        """All trays of the names that these tests use."""
        trays = {}
        for name in self.names:
            try:
                trays[name] = self.desk.say(f"show {name}")
            except NoTray:
                continue
        return trays

    def refused(self, error, *rows):
        """Rows that are refused by this very error, and change nothing."""
        before = self.trays()
        for row in rows:
            with self.assertRaises(error, msg=repr(row[:100])) as taken:
                self.desk.say(row)
            self.assertIs(type(taken.exception), error)
            self.assertEqual(self.trays(), before)
        return taken.exception


class Rows(OnDesk):

    def test_deck_and_show(self):
        self.say("deck a A1 _ B__2 _9_")
        self.assertEqual(self.desk.say("show a"), deck_of_texts(["A1", "", "B  2", " 9"]))
        self.say("deck b")
        self.assertEqual(self.desk.say("show b"), [])
        self.say("deck abcdefgh " + "Z" * 40)
        self.assertEqual(self.desk.say("show abcdefgh"), ["Z" * 40])
        self.say("deck a " + "_" * 40)
        self.assertEqual(self.desk.say("show a"), [" " * 40])
        self.say("deck a")
        self.assertEqual(self.trays(), {"a": [], "b": [], "abcdefgh": ["Z" * 40]})

    def test_what_is_told_is_the_askers_own(self):
        self.say("deck a A")
        told = self.desk.say("show a")
        told.append("X")
        self.desk.say("deck b").append("X")
        self.assertEqual(self.desk.say("show a"), deck_of_texts(["A"]))
        self.assertEqual(self.desk.say("deck b"), [])
        told = self.desk.say("show a")
        self.say("deck a")
        self.assertEqual(told, deck_of_texts(["A"]))

    def test_two_desks(self):
        self.say("deck a A")
        with self.assertRaises(NoTray):
            Desk().say("show a")

    def test_drop(self):
        self.say("deck a A", "deck b B", "drop a")
        self.assertEqual(self.trays(), {"b": deck_of_texts(["B"])})
        self.refused(NoTray, "drop a", "show a")
        self.say("deck a")
        self.assertEqual(self.desk.say("show a"), [])

    def test_copy(self):
        mark = "_" * 32 + "12 4".replace(" ", "_")
        self.say("deck a ABCD" + mark + " X")
        one, other = self.desk.say("show a")
        self.assertEqual(one, "ABCD" + " " * 32 + "12 4")
        self.say("copy a b")
        self.assertEqual(self.desk.say("show b"), [" " * 36 + "12 4", " " * 40])
        self.say("copy a n 1-2>2-3, 40>1")
        self.assertEqual(self.desk.say("show n"), ["4AB" + " " * 33 + "12 4", " X" + " " * 38])
        self.assertEqual(self.desk.say("show a"), [one, other])
        self.say("copy a a 3>1")
        self.assertEqual(self.desk.say("show a"), ["C" + " " * 35 + "12 4", " " * 40])
        self.say("copy a b 1>1")
        self.assertEqual(self.desk.say("show b"), self.desk.say("show a"))

    def test_pour(self):
        self.say("deck a A1 B1 B2", "deck b _A9 _B9 _C9", "pour n a 1 b 2")
        self.assertEqual(self.trays(), {"n": deck_of_texts(["A1", " A9", "B1", "B2", " B9", " C9"])})
        self.say("deck a 5", "deck b 4", "pour a a 1-3 b 1-3")
        self.assertEqual(self.trays()["a"], deck_of_texts(["4", "5"]))
        self.assertNotIn("b", self.trays())
        self.say("deck b 3", "pour b a 1 b 1")
        self.assertEqual(sorted(self.trays()), ["b", "n"])
        self.assertEqual(self.trays()["b"], deck_of_texts(["3", "4", "5"]))
        self.say("deck a", "pour n a 1 b 1")
        self.assertEqual(self.trays(), {"n": deck_of_texts(["3", "4", "5"])})

    def test_ask(self):
        self.say("deck a B12 A05 B03 C01 Z99", "deck b XC XA XB", "deck c Q")
        asking = ("take a; mates b 1 2; order 1, 2-3; work 10-12 = 2-3 plus 2-3; break 1; sum 2-3, 10-12 in 3; "
                  "print 1>1, 10-12>2-4")
        lines = ["     " + "A010".ljust(36), "* A 005 010", "     " + "B006".ljust(36), "     " + "B024".ljust(36),
                 "* B 015 030", "     " + "C002".ljust(36), "* C 001 002", "** 021 042"]
        before = self.trays()
        self.assertEqual(self.desk.say("read " + asking), lines)
        self.assertEqual(self.trays(), before)
        self.assertEqual(self.desk.say("ask " + asking), lines)
        self.assertEqual(self.trays(), {
            "a": deck_of_texts(["A05      010", "B03      006", "B12      024", "C01      002"]),
            "b": deck_of_texts(["XA", "XB", "XC"]), "c": deck_of_texts(["Q"])})
        self.refused(NoTray, "show -", "drop -")

    def test_what_is_aside_is_thrown_away(self):
        self.say("deck a A B A C")
        self.assertEqual(len(self.desk.say("ask take a; pick 1 A; " + PLAIN)), 3)
        self.assertEqual(self.trays(), {"a": deck_of_texts(["A", "A"])})
        self.assertEqual(len(self.desk.say("ask take a; first 1; " + PLAIN)), 2)
        self.assertEqual(self.trays(), {"a": deck_of_texts(["A"])})
        self.assertEqual(self.desk.say("ask take a; pick 1 _; " + PLAIN), ["*"])
        self.assertEqual(self.trays(), {"a": []})

    def test_read_with_each_middle(self):
        self.say("deck a B2 A1 B1", "deck b A")
        for middle, many in [("mates b 1 1; ", 1), ("without b 1 1; ", 2), ("first 1; ", 2), ("", 3)]:
            text = f"take a; {middle}{PLAIN}"
            before = self.trays()
            self.assertEqual(len(self.desk.say("read " + text)), many + 1)
            self.assertEqual(self.trays(), before)

    def test_plan_whatever_the_trays(self):
        self.assertEqual(self.desk.say(
            "plan take a; pick 3-4 A_; without b 5-6 1-2; order 9, 5-6; work 20-22 = 1-2 times 3; "
            "work 24 = 7 less 20; break 1; sum 20-22 in 3; print " + ALL), [
            "pick a 3 A", "pick a 4 _", "deal a 6", "deal a 5", "deal b 2", "deal b 1", "mate a b 5-6 1-2 without",
            "deal a 9", "punch a 20-22 = 1-2 times 3", "punch a 24 = 7 less 20", "count a"])
        self.assertEqual(self.desk.say("plan take abcdefgh; first 7; " + PLAIN),
                         ["deal abcdefgh 7", "first abcdefgh 7", "count abcdefgh"])
        self.assertEqual(self.desk.say("plan take a; mates b 7 8; " + PLAIN),
                         ["deal a 7", "deal b 8", "mate a b 7 8 mates", "count a"])
        self.assertEqual(self.desk.say("plan take a; " + PLAIN), ["count a"])
        self.assertEqual(self.desk.say("plan take a; first 7-9; order 7-8; break 0; sum in 6; print"),
                         ["deal a 9", "deal a 8", "deal a 7", "first a 7-9", "count a"])
        self.assertEqual(self.trays(), {})


class Refusals(OnDesk):

    def setUp(self):
        OnDesk.setUp(self)
        self.say("deck a A1 B2", "deck b B3 C4")

    def test_words_without_signs(self):
        self.refused(NoRow, "", " ", "  ", " show a", "show a ", "show  a", "deck a ", "deck a A  B", "deck  a",
                     " deck a", "drop a ", "copy a  n", "copy a n ", "copy a n 1>1,  2>2", "pour n a 1 b 1 ",
                     "pour n a  1 b 1",
                     "ask  take a; " + PLAIN, "ask take a;  " + PLAIN, "ask take a; " + PLAIN + " ",
                     "read take a; order;  break 0; sum in 6; print", "plan take a; " + PLAIN + " ", "plan ", "foo ")

    def test_other_first_words(self):
        self.refused(NoRow, "foo", "foo a", "Deck a", "DECK a", "decks a", "a", "take a; " + PLAIN, "deck\ta", "\n",
                     "say a", "jam", "-", "none of these words")

    def test_too_few_or_too_many_words(self):
        self.refused(NoRow, "deck", "show", "show a b", "show a a", "drop", "drop a b", "copy", "copy a", "pour",
                     "pour n", "pour n a", "pour n a 1", "pour n a 1 b", "pour n a 1 b 1 1", "ask", "read", "plan")

    def test_no_row_ahead_of_all_else(self):
        self.refused(NoRow, "show x y", "drop X ", "deck X  A", "deck X a ", "copy x", "copy x X ", "copy x X  1",
                     "pour X x 9-3 y", "pour X x 9-3 y 0 0", "ask x ", "read  x", "plan x  y")

    def test_pour_of_one_name(self):
        self.refused(NoRow, "pour n a 1 a 1", "pour a a 1 a 1", "pour X x 0 x 0", "pour n a 1 a 1-2")

    def test_names_of_trays_that_are_made(self):
        for name in ["A", "abcdefghi", "a1", "-", "_", "a-b", "\u00e4", "a\n", "\u0430"]:
            self.refused(NoTray, f"deck {name}", f"deck {name} A", f"copy a {name}", f"pour {name} a 1 b 1")
            # Looked at from the left.
            self.refused(NoTray, f"deck {name} x", f"copy a {name} 9", f"pour {name} a 0 b 0")

    def test_names_by_which_no_tray_stands(self):
        for name in ["c", "A", "-", "aa", "a\n", "1"]:
            self.refused(NoTray, f"show {name}", f"drop {name}", f"copy {name} n", f"copy {name} n 9",
                         f"copy {name} N", f"pour n {name} 1 b 1", f"pour n a 1 {name} 1", f"pour n {name} 0 b 1",
                         f"pour n a 1 {name} 0", f"pour n a 1 {name} 1-2")

    def test_cards(self):
        for word in ["a", "A-", "A" * 41, "_" * 41, "A.", "\u00c4", "A\n", "Ab", "A\u00a0", "\u0663"]:
            self.refused(NoCard, f"deck a {word}", f"deck n {word}", f"deck n A {word} B", f"deck n {word} x",
                         f"deck n A B {word}")

    def test_fields(self):
        for word in ["0", "37", "7-7", "9-3", "01", "x", "1-37", "-", "1-2-3", "1,2"]:
            self.refused(NoField, f"pour n a {word} b 1", f"pour n a 1 b {word}", f"pour n a {word} b {word}")
            # Ahead of names to the right of it, and of the deed.
            self.refused(NoField, f"pour n a {word} c 1")
            self.refused(NoTray, f"pour n c {word} b 1", f"pour n a 1 c {word}", f"pour N a {word} b 1")

    def test_boards(self):
        self.refused(NoBoard, "copy a n 9", "copy a n 1>37", "copy a n 1>1,2>2", "copy a n 1>1,", "copy a n 1-1>2-2",
                     "copy a n x y z", "copy a n 1>2 3>4", "copy a n 41>1", "copy a n 2>1, 3>1, 4>37")
        error = self.refused(Meet, "copy a n 2>1, 3>1")
        self.assertEqual((error.one, error.other), ((2, 1), (3, 1)))
        self.refused(NoTray, "copy c n 2>1, 3>1", "copy a N 2>1, 3>1")

    def test_pour_out_of_order(self):
        self.say("deck c B A")
        error = self.refused(NoOrder, "pour n c 1 a 1")
        self.assertEqual((error.deck, error.place), (1, 1))
        error = self.refused(NoOrder, "pour n a 1 c 1")
        self.assertEqual((error.deck, error.place), (2, 1))
        self.say("deck b A A B A")
        error = self.refused(NoOrder, "pour n c 1 b 1", "pour c c 1 b 1", "pour b c 1 b 1")
        self.assertEqual((error.deck, error.place), (2, 3))
        self.refused(NoField, "pour n c 1 b 1-2", "pour n a 1-2 b 1")

    def test_askings(self):
        for word in ["ask", "read", "plan"]:
            self.refused(NoAsking, f"{word} x", f"{word} take a", f"{word} take A; {PLAIN}", f"{word} take a;{PLAIN}",
                         f"{word} take a; mates a 1 1; {PLAIN}", f"{word} take a; pick 1 a; {PLAIN}",
                         f"{word} take a; pick 0 A; {PLAIN}",
                         f"{word} take a; order; break 0; sum in 6; print 1>37",
                         f"{word} take a; order; break 0; sum in 6; print 1>1, 2>1")
            # Ahead of names by which no tray stands.
            self.refused(NoAsking, f"{word} take c", f"{word} take c; mates b 1 1-2; {PLAIN}")

    def test_names_of_askings(self):
        for word in ["ask", "read"]:
            self.refused(NoTray, f"{word} take c; {PLAIN}", f"{word} take a; mates c 1 1; {PLAIN}",
                         f"{word} take a; pick 1 A; without c 1 1; {PLAIN}", f"{word} take c; mates a 1 1; {PLAIN}",
                         f"{word} take c; mates n 1 1; {PLAIN}", f"{word} take c; first 1; {PLAIN}")
        self.assertEqual(self.desk.say(f"plan take c; {PLAIN}"), ["count c"])

    def test_on_a_desk_without_trays(self):
        self.desk = Desk()
        self.refused(NoTray, "show a", "drop a", "copy a b", "pour n a 1 b 1", f"ask take a; {PLAIN}",
                     f"read take a; {PLAIN}")


if __name__ == "__main__":
    unittest.main()
