"""[0.1] to [0.5]: what holds of all functions."""

import copy

from mergerates import amounts, partings, tables, tracing
from mergerates.errors import (
    BadLot, BadNumber, BadParting, BadTable, NotFiner, OtherSize, TooMany,
)
from mergerates.worlds import World, reached
from tests.case import NO_AMOUNTS, Case

WORLD = World(3, [((0, 1, 2), (0, 0, 1), 2), ((0, 1, 2), (0, 0, 0), 1), ((0, 0, 1), (0, 0, 0), 4)])

# Each function with arguments by name, everything that may be a list being a list.
CALLS = (
    (amounts.fraction, {"top": 6, "bottom": 4}), (amounts.plus, {"f": (1, 2), "g": 1}),
    (amounts.minus, {"f": (1, 2), "g": 1}), (amounts.multiply, {"f": (1, 2), "g": 3}),
    (amounts.over, {"f": (1, 2), "g": 3}), (amounts.compare, {"f": (1, 2), "g": 3}),
    (amounts.power, {"f": (1, 2), "k": 3}), (amounts.total, {"rest": [1, (1, 2), -4]}),
    (amounts.shown, {"f": (1, 2)}),
    (partings.singles, {"n": 3}), (partings.whole, {"n": 3}), (partings.lot_parting, {"lot": [2, 0], "n": 4}),
    (partings.parting_of, {"marks": [4, 2, 4]}), (partings.partings, {"n": 4}),
    (partings.count_of, {"p": [0, 1, 0]}), (partings.blocks_of, {"p": [0, 1, 0]}),
    (partings.shape_of, {"p": [0, 1, 0]}), (partings.touched, {"p": [0, 1, 0]}),
    (partings.together, {"p": [0, 1, 0], "a": 2, "b": 0}), (partings.finer, {"p": [0, 1, 2], "r": [0, 1, 0]}),
    (partings.join, {"p": [0, 1, 1], "r": [0, 1, 0]}), (partings.meet, {"p": [0, 0, 0], "r": [0, 1, 0]}),
    (partings.join_all, {"p": [0, 1, 1]}), (partings.trace, {"p": [0, 1, 1], "lot": [2, 0]}),
    (partings.seen_from, {"p": [0, 1, 1], "r": [0, 0, 0]}), (partings.lifted, {"p": [0, 1, 1], "x": [0, 0]}),
    (partings.renamed, {"p": [0, 1, 1], "names": [2, 0, 1]}), (partings.coarser_than, {"p": [0, 1, 1]}),
    (tables.mu, {"p": [0, 1, 2], "r": [0, 1, 1]}), (tables.sums_below, {"n": 2, "table": [(1, 2), 3]}),
    (tables.sums_above, {"n": 2, "table": [(1, 2), 3]}), (tables.told_below, {"n": 2, "table": [(1, 2), 3]}),
    (tables.told_above, {"n": 2, "table": [(1, 2), 3]}), (tables.counts_by_touch, {"n": 4}),
    (tables.without_alone, {"k": 4}), (tables.colour_count, {"p": [0, 1, 0], "k": 3}),
    (tracing.goes_through, {"rest": [[0, 1, 1], [0, 1, 0]], "lot": [1, 0]}),
    (tracing.broken_link, {"rest": [[0, 1, 1], [0, 1, 0]], "lot": [1, 0]}),
    (WORLD, {"p": [0, 1, 2], "r": [0, 0, 1]}), (WORLD.total_from, {"p": [0, 1, 2]}),
    (WORLD.from_here, {"p": [0, 1, 2]}), (WORLD.is_end, {"p": [0, 1, 2]}), (WORLD.row_at, {"p": [0, 1, 2]}),
    (WORLD.exit_from, {"p": [0, 1, 2], "t": [0, 0, 1]}), (WORLD.first_rates, {}), (WORLD.lines, {}),
    (World.line_of, {"move": [[0, 1, 2], [0, 0, 1], 2]}), (reached, {"world": WORLD, "start": [0, 1, 2]}),
)


def frozen(value):
    """The same with tuples instead of lists."""
    return tuple(frozen(item) for item in value) if isinstance(value, list) else value


class Conventions(Case):
    def test_0_3_by_position_by_name_lists_and_tuples(self):
        for call, named in CALLS:
            with self.subTest(call=call, named=named):
                answer = call(**named)
                self.same(call(*named.values()), answer)
                self.same(call(**{word: frozen(value) for word, value in named.items()}), answer)

    def test_0_3_arguments_are_not_changed(self):
        for call, named in CALLS:
            with self.subTest(call=call):
                before = {word: copy.deepcopy(value) for word, value in named.items() if value is not WORLD}
                call(**named)
                self.same({word: value for word, value in named.items() if value is not WORLD}, before)

    def test_0_3_returned_lists_are_new(self):
        for call, named in CALLS:
            answer = call(**named)
            if isinstance(answer, list):
                expected = list(answer)
                answer.append("more")
                answer[0] = "other"
                self.same(call(**named), expected)

    def test_0_3_what_is_a_list_and_what_a_tuple(self):
        lists = [partings.partings, partings.coarser_than, WORLD.from_here, reached]
        for call, named in CALLS:
            with self.subTest(call=call):
                self.assertEqual(isinstance(call(**named), list), call in lists)

    def test_0_3_partings_are_returned_as_tuples(self):
        p = [0, 1, 1]
        for found in (partings.coarser_than(p)[-1], partings.join_all(p), reached(World(3), p)[0]):
            self.same(found, (0, 1, 1))

    def test_0_3_fractions(self):
        for wrong in NO_AMOUNTS:
            self.refuses(BadNumber, "f", amounts.plus, wrong, 0)
            self.refuses(BadTable, 0, amounts.total, [wrong])
            self.refuses(BadTable, 1, tables.sums_below, 2, (0, wrong))

    def test_0_3_true_is_no_integer(self):
        self.refuses(BadNumber, "n", partings.singles, True)
        self.refuses(BadNumber, "k", tables.without_alone, False)
        self.refuses(BadParting, 0, partings.count_of, (False,))
        self.refuses(BadLot, 0, partings.trace, (0, 1), (True,))
        self.refuses(BadTable, 0, World, 2, [((0, 1), (0, 0), True)])

    def test_0_3_order(self):
        self.same((0, 1) < (0, 1, 0), True)
        self.same(list(partings.lots_of(3, 2)), [(0, 1), (0, 2), (1, 2)])
        self.same(partings.partings(3), [(0, 0, 0), (0, 0, 1), (0, 1, 0), (0, 1, 1), (0, 1, 2)])

    def test_0_4_which_error_is_first(self):
        bad, other, lot = (0, 2), (0, 1, 2, 3), (5, 5)
        for kind, told, call in (
            (BadNumber, "n", lambda: partings.lot_parting(lot, 9)),
            (BadNumber, "k", lambda: tables.colour_count(bad, -1)),
            (BadNumber, "n", lambda: tables.told_above(0, None)),
            (BadParting, 1, lambda: partings.join(bad, other)),
            (BadParting, 1, lambda: partings.join(other, bad)),
            (BadParting, 1, lambda: partings.join_all((0, 1), other, bad)),
            (BadParting, 1, lambda: partings.trace(bad, lot)),
            (BadParting, 1, lambda: partings.renamed(bad, lot)),
            (BadParting, 1, lambda: partings.together(bad, 9, 9)),
            (BadParting, 1, lambda: tables.mu(other, bad)),
            (BadParting, 1, lambda: WORLD.exit_from(other, bad)),
            (BadParting, 1, lambda: tracing.goes_through([other, bad], lot)),
            (OtherSize, 4, lambda: partings.seen_from((0, 0), other)),
            (OtherSize, 4, lambda: tables.mu((0, 0), other)),
            (OtherSize, 4, lambda: WORLD.exit_from((0, 0, 0), other)),
            (OtherSize, 4, lambda: tracing.broken_link([(0, 1), other] * 40, lot)),
            (BadLot, 0, lambda: tracing.broken_link([(0, 1)] * 80, lot)),
            (TooMany, 80, lambda: tracing.broken_link([(0, 1)] * 80, (1, 0))),
            (NotFiner, -1, lambda: WORLD.exit_from((0, 0, 0), (0, 1, 2))),
        ):
            self.refuses(kind, told, call)

    def test_0_4_a_refused_call_changes_nothing(self):
        before = (WORLD.size, WORLD.moves, WORLD.lines())
        self.refuses(OtherSize, 2, lambda: WORLD + World(2))
        self.refuses(BadNumber, "k", lambda: WORLD * -1)
        self.refuses(NotFiner, -1, WORLD.exit_from, (0, 0, 0), (0, 1, 2))
        self.same((WORLD.size, WORLD.moves, WORLD.lines()), before)

    def test_0_5_sizes_of_answers(self):
        top = 10 ** 40 - 1
        self.same(amounts.power((top, top - 1), 37), (top ** 37, (top - 1) ** 37))
        moves = [((0, 1), (0, 0), 10 ** 14)] * 2500
        self.same(World(2, moves).moves, (((0, 1), (0, 0), 2500 * 10 ** 14),))
