"""The desk, which keeps trays and is told rows."""

from cardshop.askings import is_name
from cardshop.asktexts import read_asking, shown_work
from cardshop.boards import copy_deck
from cardshop.boardtexts import read_board
from cardshop.cards import card_of, read_blanks, shown_blanks
from cardshop.clerk import ASIDE, Clerk
from cardshop.collator import pour_decks
from cardshop.errors import NoRow, NoTray
from cardshop.fields import read_field, shown_field
from cardshop.plans import plan_of
from cardshop.reading import check_trays, told_lines

# The first words of rows, with the fewest and the most words of a row; None where there may be any number.
ROWS = {
    "deck": (2, None),
    "show": (2, 2),
    "drop": (2, 2),
    "copy": (3, None),
    "pour": (6, 6),
    "ask": (2, None),
    "read": (2, None),
    "plan": (2, None),
}


def words_of(row):
    """The words of a row that has the form of one."""
    words = row.split(" ")
    if "" in words or words[0] not in ROWS:
        raise NoRow(f"{row!r} is none of the desk's rows")
    bounds = ROWS[words[0]]
    if len(words) < bounds[0] or (bounds[1] is not None and len(words) > bounds[1]):
        raise NoRow(f"{row!r} has too few or too many words")
    if words[0] == "pour" and words[2] == words[4]:
        raise NoRow("a deck is not poured together with itself")
    return words


def text_behind(words, many):
    """The text of a row behind so many words."""
    return " ".join(words[many:])


def read_card(word):
    """The card that a word writes."""
    return card_of(read_blanks(word))


def check_new_name(name):
    """Refuse what is no name for a tray that is made."""
    if not is_name(name):
        raise NoTray(f"{name!r} is no name")


def shown_going(going):
    """The text of a going of a plan."""
    words = [going[0], going[1]]
    if going[0] == "deal":
        words.append(str(going[2]))
    elif going[0] == "pick":
        words.extend([str(going[2]), shown_blanks(going[3])])
    elif going[0] == "mate":
        words.extend([going[2], shown_field(going[3]), shown_field(going[4]), going[5]])
    elif going[0] == "first":
        words.append(shown_field(going[2]))
    elif going[0] == "punch":
        words.append(shown_work(going[2]))
    return " ".join(words)


class Desk:
    """A desk, without trays at first."""

    def __init__(self):
        self.trays = {}

    def say(self, row):
        """Do what a row tells, and answer with a list of texts."""
        words = words_of(row)
        word = words[0]
        if word == "deck":
            return self.lay_deck(words)
        if word == "show":
            return self.deck_by(words[1])
        if word == "drop":
            return self.drop_tray(words)
        if word == "copy":
            return self.copy_tray(words)
        if word == "pour":
            return self.pour_trays(words)
        if word == "ask":
            return self.follow_plan(words)
        if word == "read":
            return told_lines(read_asking(text_behind(words, 1)), self.trays)
        return [shown_going(going) for going in plan_of(read_asking(text_behind(words, 1)))]

    def check_stands(self, name):
        """Refuse a name by which no tray stands."""
        if name not in self.trays:
            raise NoTray(f"no tray stands by the name {name!r}")

    def deck_by(self, name):
        """The deck of a tray that must stand."""
        self.check_stands(name)
        return list(self.trays[name])

    def lay_deck(self, words):
        """The row of deck: a tray holds the cards told."""
        check_new_name(words[1])
        self.trays[words[1]] = [read_card(word) for word in words[2:]]
        return []

    def drop_tray(self, words):
        """The row of drop: a tray is no more."""
        self.check_stands(words[1])
        self.trays.pop(words[1])
        return []

    def copy_tray(self, words):
        """The row of copy: a tray holds the copies of another one's cards."""
        deck = self.deck_by(words[1])
        check_new_name(words[2])
        board = read_board(text_behind(words, 3))
        self.trays[words[2]] = copy_deck(deck, board)
        return []

    def pour_trays(self, words):
        """The row of pour: a tray holds two decks poured together, whose trays are no more."""
        check_new_name(words[1])
        one = self.deck_by(words[2])
        field = read_field(words[3])
        other = self.deck_by(words[4])
        other_field = read_field(words[5])
        poured = pour_decks(one, field, other, other_field)
        self.trays.pop(words[2])
        self.trays.pop(words[4])
        self.trays[words[1]] = poured
        return []

    def follow_plan(self, words):
        """The row of ask: a clerk follows the asking's plan with the desk's trays."""
        asking = read_asking(text_behind(words, 1))
        check_trays(asking, self.trays)
        clerk = Clerk(self.trays, plan_of(asking))
        clerk.run()
        self.trays = {}
        for name in clerk.names_now():
            if name != ASIDE:
                self.trays[name] = clerk.deck_of(name)
        return clerk.lines_out()
