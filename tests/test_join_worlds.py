"""[16] to [29] and [31] to [42] for join worlds: a Joins answers as the World of its moves."""

from mergerates import leaving, likejoins, likeness, runs, seen, steady
from mergerates.errors import OtherSize
from mergerates.joins import Joins
from mergerates.partings import partings, singles, whole
from mergerates.worlds import World, reached
from tests import manyjoins, plain
from tests.case import Case

# Functions of a world alone, of a world and a parting, and of a world and two partings p <= t.
ALONE = (reached, runs.stays, runs.meets, steady.steady_partings, steady.steady_to, steady.breaking_table,
         likejoins.least_colours, likejoins.is_one_lot, likejoins.not_one_lot)
WITH_ONE = (reached, runs.stays, runs.meets, steady.is_steady, steady.unsteady_pair, likejoins.joined_row,
            likejoins.like_joins_at, World.total_from, World.from_here, World.is_end, World.row_at)
WITH_TWO = (World.exit_from, lambda w, p, t: runs.stays(w, p, inside=t), lambda w, p, t: steady.held_time(w, t, p),
            lambda w, p, t: runs.chain_chance(w, [p] if p == t else [p, t]))


class JoinWorlds(Case):
    def test_the_same_answers(self):
        for n, weights, j in manyjoins.all_joins():
            w = World(n, j.moves)
            for call in ALONE:
                self.same(call(j), call(w))
            for call in WITH_ONE:
                for p in partings(n):
                    self.same(call(j, p), call(w, p))

    def test_the_same_answers_for_two_partings(self):
        for n, weights, j in manyjoins.all_joins():
            w = World(n, j.moves)
            for call in WITH_TWO:
                for p, t in plain.comparable(n):
                    self.same(call(j, p, t), call(w, p, t))

    def test_the_same_texts_and_chains(self):
        for n, weights, j in manyjoins.all_joins():
            w = World(n, j.moves)
            self.same(j.lines(), w.lines())
            self.same(list(runs.chains(j)), list(runs.chains(w)))
            self.same(j.first_rates(), j.weights)

    def test_worlds_made_of_join_worlds(self):
        for n, weights, j in manyjoins.all_joins():
            w = World(n, j.moves)
            for p in partings(n):
                for call in (seen.seen_world, seen.below_world):
                    found = call(j, p)
                    self.assertIs(type(found), World)
                    self.assertEqual(found, call(w, p))
                self.assertEqual(seen.seen_world(j, p), j.seen_joins(p))
            names = list(range(n))[::-1]
            self.assertEqual(seen.renamed_world(j, names), seen.renamed_world(w, names))
            self.assertIs(type(likejoins.first_joins(j)), World)
            self.assertEqual(likejoins.first_joins(j), j)

    def test_every_parting_is_steady(self):
        for n, weights, j in manyjoins.all_joins():
            self.same(steady.steady_to(j), n)
            self.same(steady.breaking_table(j), tuple(j.breaking(t) for t in partings(n)))
            self.same(likejoins.least_colours(j), tuple(len(set(p)) for p in partings(n)))

    def test_families(self):
        for n, weights, j in manyjoins.all_joins():
            w = World(n, j.moves)
            for t in partings(n):
                family = plain.below(t)
                self.same(leaving.exits(j, family), (j.breaking(t),) * len(family))
                self.same(leaving.memoryless(j, family), True)
                self.same(leaving.Clock(j, family).level(), leaving.Clock(w, family).level())

    def test_likeness_of_worlds_and_joins(self):
        for n, weights, j in manyjoins.all_joins():
            w = World(n, j.moves)
            self.same((likeness.same_chains(j, w * 3), likeness.same_chains(w * 3, j)), (True, True))
            expected = (3, 1) if j.many else (1, 1)
            self.same(likeness.factor_at(j, w * 3, singles(n)), expected)
            self.same(likeness.factor_at(j, w * 3, whole(n)), (1, 1))
        self.refuses(OtherSize, 2, likeness.same_chains, Joins(3, (0,) * 5), Joins(2, (1, 0)))
