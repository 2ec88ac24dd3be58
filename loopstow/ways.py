"""The best ways through the rounds of a loop to the end, told by how many rounds are to come."""

from loopstow.grounds import NEVER
from loopstow.rounds import Rounds, Turning
from loopstow.straight import moves_of


class Ways:
    """The rests of all rounds, which come round like the tables; each way goes from one standing to another.

    The rests at index i are those of a round with i more rounds behind it; those at 0 go on to the end.
    """

    def __init__(self, task):
        self.rounds = Rounds(task)
        self.size = len(self.rounds.deeds)
        self.opened = self.rounds.opening(False)
        self.rests = [self.rounds.closing()]
        self.turning = Turning(self.rests[0][0].costs)
        rest = self.rests[0][0]
        while self.turning.found is None:
            self.rests.append(self.rounds.backward(rest))
            rest = self.rests[-1][0]
            self.turning.note(rest.costs)
        self.known = {}

    def index_for(self, more):
        """The index of the rests of a round with so many more rounds behind it."""
        since, period, _ = self.turning.found
        if more <= since + period:
            return more
        return since + 1 + (more - since - 1) % period

    def rest_of(self, more, spot):
        """The least price from a standing at the head of a round, with so many more rounds behind it, to the end."""
        period, gain = self.turning.found[1:]
        index = self.index_for(more)
        return self.turning.tables[index][spot] + (more - index) // period * gain

    def walk(self, more, spot):
        """The rows of moves of a round begun at a standing, and the index of the standing behind it."""
        rests = self.rests[self.index_for(more)][:self.size]
        grounds = self.rounds.round_grounds if more else self.rounds.last_grounds
        return self.walked(self.rounds.deeds, rests, grounds[1:], spot)

    def walked(self, deeds, rests, grounds, spot):
        """The rows of moves ahead of some deeds, and the index of the standing behind them."""
        rows = []
        for deed, rest, ground in zip(deeds, rests, grounds):
            texts, last = rest.trail(spot)
            rows.append(moves_of(texts))
            spot = self.rounds.yard.leads(rest.ground, deed, ground)[last]
        return tuple(rows), spot

    def spot_behind(self, more, spot):
        """The index of the standing behind a round that is begun at a standing."""
        key = (self.index_for(more), spot)
        if key not in self.known:
            self.known[key] = self.walk(more, spot)[1]
        return self.known[key]

    def first_spot(self, n):
        """The index of the standing behind the deeds ahead, for a number of rounds from 1."""
        reach = self.opened[-1]
        best, least = None, NEVER
        for spot, cost in enumerate(reach.costs):
            # Where moves have led the way can go on from where they began.
            if reach.via[spot] is None and cost < NEVER:
                price = cost + self.rest_of(n - 1, spot) - self.rest_of(n - 1, 0)
                if price < least:
                    best, least = spot, price
        return best

    def spot_at(self, n, r):
        """The index of the standing at the head of a round."""
        spot = self.first_spot(n)
        done = 0
        # As long as more rounds than these are to come, the ways come round with the period.
        steady = min(int(r), n - self.turning.found[0] - 2)
        seen = {}
        while done < steady:
            key = (self.index_for(n - 1 - done), spot)
            if key in seen:
                done = steady - (steady - done) % (done - seen[key])
                steady = 0
            else:
                seen[key] = done
                spot = self.spot_behind(n - 1 - done, spot)
                done += 1
        while done < r:
            spot = self.spot_behind(n - 1 - done, spot)
            done += 1
        return spot

    def rows_ahead(self, n):
        """The rows of moves ahead of the deeds ahead, for a number of rounds from 1."""
        spot = self.opened[-1].came[self.first_spot(n)]
        rows = []
        for reach in reversed(list(self.opened[:-1])):
            spot, texts = reach.trail(spot)
            rows.append(moves_of(texts))
        return tuple(rows[::-1])

    def rows_behind(self, n):
        """The rows of moves ahead of the deeds behind, and behind all, for a number of rounds from 1."""
        deeds, rests = self.rounds.last_deeds[self.size:], self.rests[0][self.size:]
        spot = self.walk(0, self.spot_at(n, n - 1))[1]
        rows, spot = self.walked(deeds, rests, self.rounds.last_grounds[self.size + 1:], spot)
        return *rows, moves_of(rests[-1].trail(spot)[0])
