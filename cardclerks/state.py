"""What a room holds, and the ranges of the numbers that name its parts."""

OUT_OF_RANGE = -1


def is_room_size(trays, clerks):
    return 1 <= trays <= 4 and 1 <= clerks <= 3


def is_card_number(n):
    return 0 <= n <= 999


def is_key(key):
    return -1000 <= key <= 1000


def is_place(p):
    return 0 <= p <= 40


def is_hand_place(h):
    return 0 <= h <= 2


def is_borrower(who):
    return 0 <= who <= 9


# A card stands in just one of trays, hands, lent and lost, so that moving it
# means taking it out of the one and putting it into the other.
class Room:
    def __init__(self, trays, clerks):
        self.begin(trays, clerks)

    def begin(self, trays, clerks):
        # cards maps a number to (home, key) and lent a number to who has it:
        # a dict keeps the order in which they were told or lent.
        self.cards = {}
        self.trays = [[] for t in range(trays)]
        self.hands = [[] for c in range(clerks)]
        self.lent = {}
        self.lost = []
        self.journal = []

    def has_tray(self, t):
        return 0 <= t < len(self.trays)

    def has_clerk(self, c):
        return 0 <= c < len(self.hands)

    def home_of(self, n):
        return self.cards[n][0]

    def key_of(self, n):
        return self.cards[n][1]
