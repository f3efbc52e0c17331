"""Webs: spots and occurrences, and where an occurrence may come."""

from unfoldnet.bits import bit, has, members
from unfoldnet.errors import Apart, Crowded, Misfit, NoOccurrence, NoSpot, Twice
from unfoldnet.play import crowding


class Web:
    """A web of a net.

    How two that are there stand to one another never changes by what comes later. So it is worked out once, as they
    come, and kept as bits: with each occurrence those of its own troop and of the spots that it gave, with each spot
    those of the spots side by side with it and of the occurrences that take it, with each place those of its spots.
    """

    def __init__(self, net):
        row = crowding(net)
        if row is not None:
            raise Crowded(row)
        self.base_net = net
        self.spot_tuples = []
        self.occurrence_tuples = []
        self.numbers_there = {}
        self.own_bits = []
        self.given_bits = []
        self.beside_bits = []
        self.taker_bits = []
        self.place_bits = dict([(place, 0) for place in net.places()])
        self.add_spots(net.start(), None, 0)

    def net(self):
        """The net of the web."""
        return self.base_net

    def spots(self):
        """The list of the spots, tuples (place, giver)."""
        return list(self.spot_tuples)

    def occurrences(self):
        """The list of the occurrences, tuples (move, spots)."""
        return list(self.occurrence_tuples)

    def come(self, move, spots):
        """Lets an occurrence come, and tells its number."""
        taken = sorted(spots)
        self.must_fit(move, taken)
        self.must_stand_beside(taken)
        occurrence = (move, tuple(taken))
        if occurrence in self.numbers_there:
            raise Twice(self.numbers_there[occurrence])
        return self.add_occurrence(occurrence)

    def must_have_spot(self, number):
        """Refuses what is the number of no spot."""
        if not 0 <= number < len(self.spot_tuples):
            raise NoSpot()

    def must_have_occurrence(self, number):
        """Refuses what is the number of no occurrence."""
        if not 0 <= number < len(self.occurrence_tuples):
            raise NoOccurrence()

    def must_fit(self, move, spots):
        """Refuses spots that are not just one of each place from which the move takes."""
        places = self.base_net.takes(move)
        for spot in spots:
            self.must_have_spot(spot)
        if sorted([self.spot_tuples[spot][0] for spot in spots]) != places:
            raise Misfit()

    def must_stand_beside(self, spots):
        """Refuses a rising list of spots some two of which are not side by side."""
        for at, other in enumerate(spots):
            for one in spots[:at]:
                if not has(self.beside_bits[one], other):
                    raise Apart(one, other)

    def bits_ahead(self, spots):
        """The bits of the occurrences that gave these spots, and of all their causes."""
        ahead = 0
        for spot in spots:
            giver = self.spot_tuples[spot][1]
            if giver is not None:
                ahead = ahead | self.own_bits[giver]
        return ahead

    def add_occurrence(self, occurrence):
        """Adds an occurrence that may come, with the spots that it gives; tells its number."""
        number = len(self.occurrence_tuples)
        spots_ahead = bit(len(self.spot_tuples))
        # A new spot stands beside just those that stand beside all spots that its giver takes.
        beside = spots_ahead - 1
        for spot in occurrence[1]:
            beside = beside & self.beside_bits[spot]
            self.taker_bits[spot] = self.taker_bits[spot] | bit(number)
        self.occurrence_tuples.append(occurrence)
        self.numbers_there[occurrence] = number
        self.own_bits.append(bit(number) | self.bits_ahead(occurrence[1]))
        self.add_spots(self.base_net.gives(occurrence[0]), number, beside)
        self.given_bits.append(bit(len(self.spot_tuples)) - spots_ahead)
        return number

    def add_spots(self, places, giver, beside):
        """Adds a spot of each place, side by side with one another and with the spots whose bits are told."""
        for place in places:
            number = len(self.spot_tuples)
            self.spot_tuples.append((place, giver))
            self.taker_bits.append(0)
            self.beside_bits.append(beside)
            for other in members(beside):
                self.beside_bits[other] = self.beside_bits[other] | bit(number)
            self.place_bits[place] = self.place_bits[place] | bit(number)
            beside = beside | bit(number)
