"""[142] to [144] and desks.py: a desk, its deeds, and deeds in another order."""

from itertools import combinations, permutations

from mergerates.again import may_leave
from mergerates.amounts import compare
from mergerates.desks import Desk
from mergerates.errors import (
    BadLot, BadNumber, BadParting, BadTable, MergeError, NotFiner, NothingToUndo, NotInside, NotJoins, OtherSize, TooMany,
)
from mergerates.joins import Joins, joins_of
from mergerates.leaving import leaving_time
from mergerates.partings import lot_parting, partings, seen_from
from mergerates.rows import Counts
from mergerates.seen import seen_world
from mergerates.steady import held_time
from mergerates.worlds import World
from tests import many, manyjoins, manyrows, plain
from tests.case import NO_INTEGERS, NO_PARTINGS, Case
from tests.test_firsts import some_worlds

NO_TEXTS = (None, True, 0, 1.5, b"a", ["a"], ("a",), {"a": 1})
NO_COUNTS = (*NO_INTEGERS, -1)


def joined(n, weights):
    """The rates above 0 of a join world of weights, a dict of partings."""
    return plain.rates_told(many.join_moves(n, weights))


def blocks(p):
    return len(set(p))


def seen(n, rates, p):
    """The words of [27]."""
    found = {(manyrows.seen(p, x), manyrows.seen(p, r)): rate for (x, r), rate in rates.items() if plain.is_finer(p, x)}
    return blocks(p), found


def renamed(p, names):
    marks = [0] * len(p)
    for i, name in enumerate(names):
        marks[name] = p[i]
    order = list(dict.fromkeys(marks))
    return tuple(order.index(mark) for mark in marks)


def after(n, rates, name, rest):
    """The size and the rates after a deed that is not refused, by the words of the interface."""
    if name == "add_rate":
        p, r, rate = rest
        return n, {**rates, (p, r): rates.get((p, r), 0) + rate}
    if name == "add_stroke":
        more = joined(n, {rest[0]: rest[1]})
        return n, {pair: rates.get(pair, 0) + more.get(pair, 0) for pair in {**rates, **more}}
    if name == "drop":
        return n, {pair: rate for pair, rate in rates.items() if pair[0] != rest[0]}
    if name == "take_times":
        return n, {pair: rate * rest[0] for pair, rate in rates.items()}
    if name == "take_below":
        return n, {pair: rate for pair, rate in rates.items() if plain.is_finer(pair[1], rest[0])}
    if name == "rename":
        return n, {(renamed(p, rest[0]), renamed(r, rest[0])): rate for (p, r), rate in rates.items()}
    if name == "look_from":
        return seen(n, rates, rest[0])
    if name == "glue":
        return seen(n, rates, manyjoins.lot_label(n, rest))
    return left(n, rates, rest[0])


def left(n, rates, z):
    """The words of leave: the strokes are the first rates, and their traces are those of the rest."""
    others = tuple(name for name in range(n) if name != z)
    weights = {}
    for (p, r), rate in rates.items():
        if p == plain.partings_of(n)[-1]:
            y = manyrows.trace(r, others)
            weights[y] = weights.get(y, 0) + rate
    weights.pop(plain.partings_of(n - 1)[-1], None)
    return n - 1, joined(n - 1, weights)


def world_of(n, rates):
    return World(n, manyrows.moves_of(rates))


def some_deed(n, chance):
    """A deed by chance for a world on n names, most of them right ones."""
    every = plain.partings_of(n)
    p = every[next(chance) % len(every)]
    r = every[next(chance) % len(every)]
    names = list(permutations(range(n)))
    a, b = next(chance) % n, next(chance) % (n + 1)
    fine, coarse = (p, r) if plain.is_finer(p, r) else (every[-1], r)
    return (
        ("add_rate", (fine, coarse, next(chance) % 4)), ("add_rate", (every[-1], every[0], 10 ** 14)),
        ("add_stroke", (r, next(chance) % 3)), ("add_stroke", (p, 1)), ("drop", (p,)), ("take_times", (next(chance) % 4,)),
        ("take_below", (p,)), ("look_from", (p if blocks(p) > 1 else every[-1],)),
        ("rename", (names[next(chance) % len(names)],)), ("glue", (a, b)), ("leave", (a,)), ("add_stroke", (every[0], 2)),
    )[next(chance) % 12]


def rows_of_deeds(seeds=range(60)):
    """First worlds with rows of deeds by chance: tuples (world, chance)."""
    starts = [World(1), World(2), World(3), World(4), World(5), Joins.of_pairs(4, [(0, 1, 1), (1, 2, 2)]),
              Counts(4, (1, 0, 2, 1)), Joins(3, (1, 2, 0, 1, 0)), Joins.of_lots(5, [((0, 1), 1), ((2, 3, 4), 2)]),
              World(3, [((0, 1, 2), (0, 0, 1), 2), ((0, 0, 1), (0, 0, 0), 4)])]
    for seed in seeds:
        yield starts[seed % len(starts)], many.numbers(200 + seed)


def may_be_left(n, rates, z):
    """None if leave is right, else the kind of its error, by the words of [34] and [80]."""
    if not 0 <= z < n or n == 1:
        return BadLot
    first = {r: rate for (p, r), rate in rates.items() if p == plain.partings_of(n)[-1]}
    if joined(n, first) != {pair: rate for pair, rate in sorted(rates.items()) if rate > 0}:
        return NotJoins
    weights = tuple(first.get(x, 0) for x in plain.partings_of(n)[:-1]) + (0,)
    return None if may_leave(Joins(n, weights), z) else NotInside


class Deeds(Case):
    def state(self, desk):
        return (desk.now().lines(), desk.now().KIND, type(desk.now()), desk.deeds(), desk.depth, desk.note)

    def test_142_rows_of_deeds(self):
        taken, refused = set(), set()
        for start, chance in rows_of_deeds():
            desk = Desk(start)
            past = [(start.size, plain.rates_told(start.moves))]
            names = []
            for _ in range(14):
                n, rates = past[-1]
                name, rest = some_deed(n, chance)
                before = self.state(desk)
                error = self.error_due(n, rates, name, rest)
                if error is not None:
                    with self.assertRaises(error):
                        getattr(desk, name)(*rest)
                    self.assertEqual(self.state(desk), before)
                    refused.add(name)
                else:
                    self.same(getattr(desk, name)(*rest), None)
                    past.append(after(n, rates, name, rest))
                    names.append(name)
                    taken.add(name)
                self.same((desk.deeds(), desk.depth), (tuple(names), len(names)))
                self.assertEqual((desk.now(), desk.now().KIND), (world_of(*past[-1]), "world"))
            while names:
                self.same(desk.undo(), names.pop())
                past.pop()
                self.assertEqual((desk.now(), desk.deeds()), (world_of(*past[-1]), tuple(names)))
            self.assertRaises(NothingToUndo, desk.undo)
            self.assertEqual(desk.now(), start)
        every = {"add_rate", "add_stroke", "drop", "take_times", "take_below", "look_from", "rename", "glue", "leave"}
        self.assertEqual(taken, every)
        self.assertLessEqual({"add_rate", "add_stroke", "glue", "leave"}, refused)

    def error_due(self, n, rates, name, rest):
        """The error of those arguments that some_deed makes wrong."""
        if name == "add_rate" and rest[0] == rest[1] or name == "add_stroke" and rest[0] == plain.partings_of(n)[-1]:
            return NotFiner
        if name == "glue" and (rest[0] == rest[1] or rest[1] >= n):
            return BadLot
        if name == "leave":
            return may_be_left(n, rates, rest[0])
        return None

    def test_142_deeds_by_name(self):
        desk = Desk(world=World(3), most=20)
        desk.add_rate(p=[0, 1, 2], r=[0, 0, 1], rate=2)
        desk.add_stroke(x=[0, 1, 1], weight=1)
        desk.rename(names=[1, 0, 2])
        desk.take_times(k=3)
        desk.drop(p=[0, 0, 1])
        desk.take_below(t=[0, 0, 0])
        desk.note_down(text="six deeds")
        self.same(desk.deeds(), ("add_rate", "add_stroke", "rename", "take_times", "drop", "take_below"))
        self.same(desk.now().moves, (((0, 1, 1), (0, 0, 0), 3), ((0, 1, 2), (0, 0, 1), 6), ((0, 1, 2), (0, 1, 0), 3)))
        desk.glue(a=2, b=1)
        self.same((desk.now().size, desk.now().moves), (2, (((0, 1), (0, 0), 3),)))
        desk.leave(z=0)
        self.same((desk.now().size, desk.now().moves, desk.depth), (1, (), 8))
        desk.undo()
        desk.look_from(p=[0, 0])
        self.same(desk.deeds()[-2:], ("glue", "look_from"))

    def test_142_the_first_world(self):
        for start in (World(1), Joins(3, (1, 2, 0, 1, 0)), Counts(3, (2, 1))):
            desk = Desk(start)
            self.assertEqual(desk.now(), start)
            self.same((desk.now().KIND, desk.deeds(), desk.depth, desk.note), ("world", (), 0, ""))
            self.assertIs(type(desk.now()), World)
        for deed, rest in (("add_rate", ((0, 1, 2), (0, 0, 1), 0)), ("take_times", (1,)), ("look_from", ((0, 1, 2),)),
                           ("take_below", ((0, 0, 0),)), ("leave", (0,)), ("rename", ((0, 1, 2),))):
            desk = Desk(Joins(3, (5, 0, 0, 0, 0)))
            getattr(desk, deed)(*rest)
            self.same((desk.now().KIND, type(desk.now()), desk.depth), ("world", World, 1))

    def test_142_nothing_to_undo(self):
        desk = Desk(World(2))
        self.assertRaises(NothingToUndo, desk.undo)
        desk.take_times(2)
        self.same(desk.undo(), "take_times")
        with self.assertRaises(NothingToUndo) as held:
            desk.undo()
        self.assertIsInstance(held.exception, MergeError)

    def test_142_a_full_desk(self):
        for most in (1, 2, 5):
            desk = Desk(World(3), most=most)
            for _ in range(most):
                desk.take_times(2)
            before = self.state(desk)
            for deed, rest in (("add_rate", ((0, 1, 2), (0, 0, 1), 1)), ("add_stroke", ((0, 0, 1), 1)),
                               ("drop", ((0, 1, 2),)), ("take_times", (1,)), ("take_below", ((0, 0, 0),)),
                               ("look_from", ((0, 0, 1),)), ("rename", ((1, 0, 2),)), ("glue", (0, 1)), ("leave", (0,))):
                self.refuses(TooMany, most, getattr(desk, deed), *rest)
                self.refuses(TooMany, most, desk.what_if, [(deed, rest)])
            self.refuses(BadNumber, "rate", desk.add_rate, (0,), (0,), -1)
            self.refuses(NotFiner, -1, desk.add_rate, (0, 0, 0), (0, 0, 0), 1)
            self.refuses(BadLot, 1, desk.glue, 0, 0)
            self.assertEqual(self.state(desk), before)
            desk.undo()
            desk.take_times(2)
            self.same(desk.depth, most)
        desk = Desk(World(2))
        for _ in range(200):
            desk.take_times(1)
        self.refuses(TooMany, 200, desk.take_times, 1)

    def test_notes(self):
        desk = Desk(World(2))
        desk.note = "one"
        self.same(desk.note, "one")
        self.same(desk.note_down("two"), None)
        desk.take_times(2)
        self.same(desk.note, "two")
        desk.undo()
        for wrong in NO_TEXTS:
            self.refuses(BadNumber, "text", desk.note_down, wrong)
            self.refuses(BadNumber, "text", setattr, desk, "note", wrong)
            self.same(desk.note, "two")
        desk.note_down("")
        self.same((desk.note, desk.depth), ("", 0))

    def test_it_copies_what_it_is_given(self):
        names, labels = [1, 0, 2], [0, 0, 1]
        desk = Desk(World(3))
        desk.add_stroke(labels, 1)
        desk.rename(names)
        labels[2] = names[0] = 0
        self.assertEqual(desk.now(), Joins(3, (0, 1, 0, 0, 0)))
        self.same(desk.deeds(), ("add_stroke", "rename"))

    def test_refused(self):
        for wrong in (*NO_INTEGERS, 0, -1):
            self.refuses(BadNumber, "most", lambda: Desk(World(2), most=wrong))
        desk = Desk(World(3))
        for wrong in NO_COUNTS:
            self.refuses(BadNumber, "rate", desk.add_rate, (0, 2), (0,), wrong)
            self.refuses(BadNumber, "weight", desk.add_stroke, (0, 2), wrong)
            self.refuses(BadNumber, "k", desk.take_times, wrong)
        for wrong, place in NO_PARTINGS:
            self.refuses(BadParting, place, desk.add_rate, wrong, (0, 1), 1)
            self.refuses(BadParting, place, desk.add_rate, (0, 1), wrong, 1)
            for call in (desk.drop, desk.take_below, desk.look_from, lambda x: desk.add_stroke(x, 0)):
                self.refuses(BadParting, place, call, wrong)
        for call in (desk.drop, desk.take_below, desk.look_from, lambda x: desk.add_stroke(x, 0)):
            self.refuses(OtherSize, 2, call, (0, 1))
        self.refuses(OtherSize, 2, desk.add_rate, (0, 1), (0,), 1)
        self.refuses(OtherSize, 1, desk.add_rate, (0, 1, 2), (0,), 1)
        for p, r in (((0, 1, 2), (0, 1, 2)), ((0, 0, 1), (0, 1, 0)), ((0, 0, 0), (0, 1, 2))):
            self.refuses(NotFiner, -1, desk.add_rate, p, r, 0)
        self.refuses(NotFiner, -1, desk.add_stroke, (0, 1, 2), 0)
        self.refuses(NotFiner, -1, Desk(World(1)).add_stroke, (0,), 1)
        for wrong, place in ((None, -1), (3, -1), ("012", -1), ((0, 1, 1), 2), ((3, 0, 1), 0), ((0, 1), -1), ((), -1)):
            self.refuses(BadLot, place, desk.rename, wrong)
        for wrong in (3, -1, True, None, 1.0, (0,), "0"):
            self.refuses(BadLot, 0, desk.glue, wrong, wrong)
            self.refuses(BadLot, 1, desk.glue, 1, wrong)
            self.refuses(BadLot, 0, desk.leave, wrong)
        self.refuses(BadLot, 1, desk.glue, 2, 2)
        self.refuses(BadLot, 1, Desk(World(1)).glue, 0, 0)
        self.refuses(BadLot, 0, Desk(World(1)).leave, 1)
        self.refuses(BadLot, -1, Desk(World(1)).leave, 0)
        self.same((desk.depth, desk.now().moves), (0, ()))

    def test_refused_names_to_leave(self):
        desk = Desk(World(3, [((0, 0, 1), (0, 0, 0), 4)]))
        self.refuses(NotJoins, (0, 0, 1), desk.leave, 0)
        path = Desk(Joins.of_pairs(3, [(0, 1, 1), (1, 2, 1)]))
        self.refuses(NotInside, -1, path.leave, 1)
        path.leave(2)
        self.same(path.now().moves, (((0, 1), (0, 0), 1),))
        full = Desk(World(3, [((0, 0, 1), (0, 0, 0), 4)]), most=1)
        full.take_times(1)
        self.refuses(NotJoins, (0, 0, 1), full.leave, 0)


class WhatIf(Case):
    def test_142_the_same_as_the_deeds(self):
        for start, chance in rows_of_deeds(range(40)):
            desk, model = Desk(start), Desk(start)
            rest = []
            for _ in range(8):
                name, arguments = some_deed(model.now().size, chance)
                try:
                    getattr(model, name)(*arguments)
                except MergeError as e:
                    before = (desk.now(), desk.deeds(), desk.note)
                    with self.assertRaises(type(e)):
                        desk.what_if([*rest, (name, arguments), ("wrong", ())])
                    self.assertEqual((desk.now(), desk.deeds(), desk.note), before)
                else:
                    rest.append((name, arguments))
                found = desk.what_if(rest)
                self.assertEqual((found, found.KIND, type(found)), (model.now(), "world", World))
                self.assertEqual(desk.what_if(deeds=tuple([word, list(told)] for word, told in rest)), found)
                self.assertEqual((desk.now(), desk.deeds(), desk.depth), (start, (), 0))
        self.assertEqual(Desk(World(3)).what_if([]), World(3))

    def test_142_after_other_deeds(self):
        desk = Desk(World(3))
        desk.add_stroke((0, 0, 0), 2)
        self.assertEqual(desk.what_if([("take_times", (3,))]), Joins(3, (6, 0, 0, 0, 0)))
        self.assertEqual(desk.what_if(()), desk.now())
        self.same((desk.deeds(), desk.now().many), (("add_stroke",), 4))

    def test_142_too_many(self):
        desk = Desk(World(2), most=3)
        desk.take_times(1)
        twice = [("take_times", (2,))] * 2
        self.assertEqual(desk.what_if(twice), World(2))
        self.refuses(TooMany, 3, desk.what_if, [*twice, *twice])
        self.refuses(TooMany, 3, desk.what_if, [*twice, ("take_times", (2,)), None])
        # The third deed is refused by what comes before room does.
        self.refuses(BadNumber, "k", desk.what_if, [*twice, ("take_times", (-1,))])
        self.refuses(BadTable, 2, desk.what_if, [*twice, ("take_times", ())])
        self.same(desk.depth, 1)

    def test_refused(self):
        desk = Desk(World(3))
        for wrong in (None, 5, "drop", {"drop": ()}, iter([])):
            self.refuses(BadTable, -1, desk.what_if, wrong)
        good = ("take_times", (2,))
        for wrong in (None, 5, "drop", {}, (), ("drop",), ("drop", ((0, 1, 2),), 1), ("drop", None), ("drop", "0"),
                      ("drop", {0: 1}), (None, ()), (["drop"], ((0, 1, 2),)), (("drop",), ()), (5, ()), ("undo", ()),
                      ("note_down", ("a",)), ("what_if", ([],)), ("now", ()), ("", ()), ("Drop", ((0, 1, 2),)),
                      ("drop", ()), ("drop", ((0, 1, 2), 1)), ("add_rate", ((0, 1, 2), (0, 0, 0))), ("add_stroke", (1,)),
                      ("add_rate", ((0, 1, 2), (0, 0, 0), 1, 1)), ("take_times", ()), ("take_below", ()),
                      ("look_from", (1, 2)), ("rename", (0, 1, 2)), ("glue", (0,)), ("glue", (0, 1, 2)), ("leave", ())):
            self.refuses(BadTable, 1, desk.what_if, [good, wrong, None])
        self.refuses(BadNumber, "k", desk.what_if, [("take_times", (-1,)), None])
        self.refuses(OtherSize, 3, desk.what_if, [("glue", (0, 1)), ("drop", ((0, 1, 2),))])
        self.same((desk.depth, desk.now().moves), (0, ()))


def made(world, *deeds):
    return Desk(world).what_if(deeds)


class Orders(Case):
    def test_143_looking_twice(self):
        for n, rates, w in some_worlds():
            for p in partings(n):
                for r in [r for r in partings(n) if plain.is_finer(p, r)][::1 if n < 4 else 3]:
                    twice = made(w, ("look_from", (p,)), ("look_from", (seen_from(p, r),)))
                    self.assertEqual(twice, made(w, ("look_from", (r,))))

    def test_143_gluing_twice(self):
        for n, rates, w in some_worlds((3, 4)):
            for a, b, c in list(permutations(range(n), 3))[::1 if n < 4 else 5]:
                block = lot_parting((a, b), n)
                twice = made(w, ("glue", (a, b)), ("glue", (block[a], block[c])))
                self.assertEqual(twice, seen_world(w, lot_parting((a, b, c), n)))
                self.assertEqual(made(w, ("glue", (a, b))), seen_world(w, block))

    def test_143_below_and_from(self):
        for n, rates, w in some_worlds():
            for t in partings(n):
                for p in [p for p in plain.below(t)][::1 if n < 4 else 3]:
                    self.assertEqual(made(w, ("take_below", (t,)), ("look_from", (p,))),
                                     made(w, ("look_from", (p,)), ("take_below", (seen_from(p, t),))))

    def test_28_below(self):
        for n, rates, w in some_worlds((2, 3)):
            for t in partings(n):
                v = made(w, ("take_below", (t,)))
                for s in plain.below(t):
                    for p in plain.below(s):
                        self.same(v.exit_from(p, s), w.exit_from(p, s) - w.exit_from(p, t))
                        found, before = held_time(v, s, p), held_time(w, s, p)
                        self.assertTrue(found is None or compare(found, before) >= 0)

    def joins(self):
        yield from manyjoins.all_joins((2, 3, 4))
        for lots in manyjoins.NESTED_LOTS:
            j = Joins.of_lots(5, [*lots, ((0, 1, 2, 3, 4), 1)])
            yield 5, manyjoins.as_dict(5, j.weights), j

    def test_143_leaving(self):
        asked = 0
        for n, weights, j in self.joins():
            for z in range(n):
                if may_leave(j, z):
                    v = made(j, ("leave", (z,)))
                    others = [name for name in range(n) if name != z]
                    for t in partings(n - 1)[::1 if n < 5 else 3]:
                        family = [p for p in partings(n) if plain.is_finer(manyrows.trace(p, tuple(others)), t)]
                        self.same(held_time(v, t, partings(n - 1)[-1]), leaving_time(j, family, partings(n)[-1]))
                    asked += 1
        self.assertGreater(asked, 50)

    def test_143_leaving_two_names(self):
        asked = 0
        for n, weights, j in self.joins():
            for y, z in combinations(range(n), 2):
                if n > 2:
                    both = []
                    for first, second in ((y, z - 1), (z, y)):
                        if may_leave(j, first):
                            rest = joins_of(made(j, ("leave", (first,))))
                            if may_leave(rest, second):
                                both.append(made(rest, ("leave", (second,))))
                    if len(both) == 2:
                        self.assertEqual(both[0], both[1])
                        asked += 1
        self.assertGreater(asked, 50)

    def test_144_texts(self):
        for n, rates, w in some_worlds():
            self.assertEqual(World.read(w.lines()), w)
        for start, chance in rows_of_deeds(range(30)):
            desk = Desk(start)
            for _ in range(8):
                name, rest = some_deed(desk.now().size, chance)
                try:
                    getattr(desk, name)(*rest)
                except MergeError:
                    pass
                self.assertEqual(World.read(desk.now().lines()), desk.now())
        great = Desk(World(3, [((0, 1, 2), (0, 0, 0), 10 ** 26 - 1)]))
        great.take_times(10 ** 14)
        self.assertEqual(World.read(great.now().lines()), great.now())
        self.assertEqual(great.now().moves[0][2], (10 ** 26 - 1) * 10 ** 14)

    def test_six_names(self):
        desk = Desk(Counts(6, [1, 2, 3, 4, 5, 6, 7, 8, 9, 10]))
        desk.rename((5, 4, 3, 2, 1, 0))
        self.assertEqual(desk.now(), Counts(6, [1, 2, 3, 4, 5, 6, 7, 8, 9, 10]))
        desk.glue(5, 0)
        self.assertEqual(desk.now(), Counts(5, Counts(6, [1, 2, 3, 4, 5, 6, 7, 8, 9, 10]).numbers_at(5)))
        desk.drop((0, 1, 2, 3, 4))
        self.same((desk.now().size, desk.now().first_rates()), (5, (0,) * 52))
