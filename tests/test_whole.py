"""What the document promises over the whole program: points [1] to [3], and the names of the interface."""

import copy
import importlib
import inspect
import pkgutil
import random
import unittest

import gapweave
from gapweave import (
    again, blocks, cheapest, errors, fractions, hall, halving, joining, layings, mending, prices, texts)
from gapweave.blocks import Block
from gapweave.prices import Prices
from plain import MANNERS, both_ways, refusal, some_block, some_prices, some_row

INTERFACE = {
    fractions: {
        "lowest": "fraction", "plus": "one other", "times": "fraction number", "less_than": "one other"},
    prices: {
        "Prices": "signs pairs opening more", "unit_of": "prices", "pair_cost": "prices one other",
        "opening_cost": "prices", "more_cost": "prices", "in_units": "prices number", "same_both_ways": "prices"},
    layings: {
        "end_of": "prices first second begin moves", "cost_of": "prices first second begin moves",
        "fits": "prices first second begin moves manner"},
    cheapest: {
        "cheapest": "prices first second manner", "count_of": "prices first second manner",
        "paper_of": "prices first second manner"},
    halving: {"place_at": "prices first second used", "halved": "prices first second"},
    blocks: {
        "Block": "rows", "bare": "block row", "alone": "text", "without": "block row", "block_cost": "prices block"},
    joining: {"joined": "prices one other", "join_paper": "prices one other", "laid_by": "prices rows tree"},
    mending: {"laid_anew": "prices block row", "mended": "prices block most"},
    again: {"twins": "row least", "longest_twin": "row", "thinned": "row least", "thickened": "notes"},
    texts: {
        "written_fraction": "fraction", "written_prices": "prices", "written_block": "block",
        "written_laying": "first second moves", "read_prices": "text", "read_block": "text", "read_laying": "text"},
    hall: {"lay_text": "prices_text rows_text", "many_text": "prices_text rows_text most"},
}

PAIRS = [[(0, 2), (3, 2)], [(6, 4), (-1, 3)]]
NOTES = ["xyx", (0, 2), "y", (1, 3)]
ROWS = ["xyx", "yx", "", "xxy"]
GAPPED = ["xy-x", "-yx-", "x--x"]


def shown(told):
    """What was told, in a form that can be compared."""
    if isinstance(told, (Prices, Block)):
        return type(told).__name__, copy.deepcopy(vars(told))
    if isinstance(told, tuple):
        return tuple(shown(thing) for thing in told)
    return copy.deepcopy(told)


def asks(table, block):
    """Every function of the program, asked something, some of it to be refused."""
    text = texts.written_prices(table)
    yield lambda: fractions.lowest((6, 4))
    yield lambda: fractions.plus((6, 4), (1, 3))
    yield lambda: fractions.times((6, 4), 3)
    yield lambda: fractions.less_than((6, 4), (1, 3))
    yield lambda: Prices("xy", PAIRS, (2, 1), (1, 2))
    yield lambda: prices.unit_of(table)
    yield lambda: prices.pair_cost(table, "x", "y")
    yield lambda: prices.opening_cost(table)
    yield lambda: prices.more_cost(table)
    yield lambda: prices.in_units(table, 9)
    yield lambda: prices.same_both_ways(table)
    yield lambda: layings.end_of(table, "xyx", "yx", (0, 0), "ppa")
    yield lambda: layings.cost_of(table, "xyx", "yx", (0, 0), "ppa")
    for manner in MANNERS + ("none",):
        yield lambda manner=manner: layings.fits(table, "xyx", "yx", (0, 0), "ppa", manner)
        yield lambda manner=manner: cheapest.cheapest(table, "xyx", "yx", manner)
        yield lambda manner=manner: cheapest.count_of(table, "xyx", "yx", manner)
        yield lambda manner=manner: cheapest.paper_of(table, "xyx", "yx", manner)
    yield lambda: halving.place_at(table, "xyx", "yx", 2)
    yield lambda: halving.halved(table, "xyx", "yx")
    yield lambda: Block(GAPPED)
    yield lambda: blocks.alone("xyx")
    yield lambda: blocks.block_cost(table, block)
    yield lambda: joining.joined(table, block, block)
    yield lambda: joining.join_paper(table, block, blocks.alone("xyx"))
    yield lambda: joining.laid_by(table, ROWS, ((3, 1), (0, 2)))
    yield lambda: joining.laid_by(table, ROWS, ((3, 1), (0, 9)))
    for row in range(-1, 4):
        yield lambda row=row: blocks.bare(block, row)
        yield lambda row=row: blocks.without(block, row)
        yield lambda row=row: mending.laid_anew(table, block, row)
        yield lambda row=row: mending.mended(table, block, row)
        yield lambda row=row: again.twins("xyxyyx", row)
        yield lambda row=row: again.thinned("xyxyyxyx", row)
        yield lambda row=row: hall.many_text(text, "xyx\nyx\nxx", row)
    yield lambda: again.longest_twin("xyxyyx")
    yield lambda: again.thickened(NOTES)
    yield lambda: again.thickened(NOTES + [None])
    yield lambda: texts.written_fraction((6, 4))
    yield lambda: texts.written_prices(table)
    yield lambda: texts.written_block(block)
    yield lambda: texts.written_laying("xyx", "yx", "ppa")
    yield lambda: texts.read_prices(text)
    yield lambda: texts.read_prices(text + "\n")
    yield lambda: texts.read_block("x-\n-y")
    yield lambda: texts.read_laying("x-\n-y")
    yield lambda: hall.lay_text(text, "xyx\nyx")


def answer(ask):
    try:
        return ask()
    except errors.WeaveError as error:
        return type(error).__name__, dict(vars(error))


def spoil(told):
    """All lists within what was told are changed."""
    if isinstance(told, (list, tuple)):
        for thing in told:
            spoil(thing)
    if isinstance(told, list):
        told.reverse()
        told.append("spoilt")
        told[0] = None


def tables():
    return (Prices("xy", PAIRS, (2, 1), (1, 2)), Prices("xy", [[(0, 1), (3, 1)], [(2, 1), (1, 1)]], (2, 1), (1, 1)))


class TheInterface(unittest.TestCase):
    def test_names_and_arguments(self):
        for module, names in INTERFACE.items():
            for name, arguments in names.items():
                told = inspect.signature(getattr(module, name))
                self.assertEqual(" ".join(told.parameters), arguments, name)
                defaults = [key for key, part in told.parameters.items() if part.default is not part.empty]
                self.assertEqual(defaults, ["manner"] if name == "cheapest" else [], name)

    def test_everything_can_be_asked_by_the_names_of_its_arguments(self):
        table = tables()[0]
        self.assertEqual(cheapest.cheapest(prices=table, first="x", second="x", manner="whole")[2], "p")
        self.assertEqual(mending.mended(prices=table, block=Block(rows=["x", "y"]), most=0)[1], [])

    def test_each_module_is_there(self):
        found = {module.name for module in pkgutil.iter_modules(gapweave.__path__)}
        for module in list(INTERFACE) + [errors]:
            self.assertIn(module.__name__.partition(".")[2], found)


class Point1And3NothingIsChangedOrKept(unittest.TestCase):
    def test_asked_in_any_order_and_spoilt(self):
        for number in range(2):
            fresh = [shown(answer(ask)) for ask in asks(tables()[number], Block(GAPPED))]
            several = list(asks(tables()[number], Block(GAPPED)))
            order = list(range(len(several))) * 3
            random.Random(111).shuffle(order)
            for place in order:
                told = answer(several[place])
                self.assertEqual(shown(told), fresh[place])
                spoil(told)

    def test_what_was_told_stays_whatever_is_asked_later(self):
        for table in tables():
            several = list(asks(table, Block(GAPPED)))
            told = [answer(ask) for ask in several]
            kept = [shown(thing) for thing in told]
            for ask in reversed(several):
                spoil(answer(ask))
            self.assertEqual([shown(thing) for thing in told], kept)

    def test_what_is_handed_in_stays(self):
        handed = (PAIRS, NOTES, ROWS, GAPPED)
        kept = copy.deepcopy(handed)
        for table in tables():
            block = Block(GAPPED)
            ahead = shown((table, block))
            for ask in asks(table, block):
                answer(ask)
            self.assertEqual(shown((table, block)), ahead)
        self.assertEqual(handed, kept)

    def test_no_list_that_was_handed_in_is_kept(self):
        pairs, rows, texts_in, notes = copy.deepcopy((PAIRS, GAPPED, ROWS, NOTES))
        table, block = Prices("xy", pairs, (2, 1), (1, 2)), Block(rows)
        laid, row = joining.laid_by(table, texts_in, ((0, 1), (2, 3))), again.thickened(notes)
        kept = shown((table, block, laid, row))
        spoil([pairs, rows, texts_in, notes])
        self.assertEqual(shown((table, block, laid, row)), kept)

    def test_nothing_is_kept_in_the_modules(self):
        modules = [importlib.import_module("gapweave." + module.name)
                   for module in pkgutil.iter_modules(gapweave.__path__)]

        def values():
            return [{key: copy.deepcopy(value) for key, value in vars(module).items()
                     if isinstance(value, (int, str, list, tuple, dict)) and not key.startswith("__")}
                    for module in modules]
        ahead = values()
        for table in tables():
            for ask in asks(table, Block(GAPPED)):
                answer(ask)
        self.assertEqual(values(), ahead)


class Point3TuplesWhereListsAreTold(unittest.TestCase):
    def test_tuples(self):
        of_lists = Prices("xy", PAIRS, (2, 1), (1, 2))
        of_tuples = Prices("xy", tuple(tuple(row) for row in PAIRS), (2, 1), (1, 2))
        self.assertEqual(shown(of_tuples), shown(of_lists))
        self.assertEqual(Block(tuple(GAPPED)).rows, Block(GAPPED).rows)
        tree = ((0, 1), (2, 3))
        self.assertEqual(joining.laid_by(of_lists, tuple(ROWS), tree).rows, joining.laid_by(of_lists, ROWS, tree).rows)
        self.assertEqual(again.thickened(tuple(NOTES)), again.thickened(NOTES))

    def test_tuples_are_refused_as_lists_are(self):
        self.assertEqual(refusal(lambda: Block(())), ("NoBlock", {}))
        self.assertEqual(refusal(lambda: Prices("x", (), (1, 1), (1, 1))), ("NoPrices", {}))
        self.assertEqual(refusal(lambda: joining.laid_by(tables()[0], (), 0)), ("NoTree", {}))
        self.assertEqual(refusal(lambda: again.thickened(("x", ""))), ("NoNote", {"at": 1}))


class Point2WhatWasToldMayBeHandedInAgain(unittest.TestCase):
    def test_prices(self):
        table = tables()[0]
        again_told = Prices(table.signs, table.pairs, table.opening, table.more)
        self.assertEqual(shown(again_told), shown(table))
        cost = blocks.block_cost(table, Block(GAPPED))
        self.assertEqual(shown(Prices("x", [[cost]], cost, cost).pairs), ((cost,),))

    def test_blocks_wider_than_the_bound(self):
        source = random.Random(112)
        apart = Prices("xy", [[(9, 1)] * 2] * 2, (0, 1), (1, 1))
        block = Block(some_block(source, "xy", 8, 80))
        wide = joining.joined(apart, block, block)
        self.assertGreater(len(wide.rows[0]), 80)
        for table in (apart, both_ways(some_prices(source, "xy"))):
            told = mending.mended(table, wide, 3)[0]
            self.assertEqual([blocks.bare(told, row) for row in range(16)],
                             [blocks.bare(wide, row) for row in range(16)])
            read = texts.read_block(texts.written_block(told))
            self.assertEqual(blocks.block_cost(table, read), blocks.block_cost(table, told))

    def test_rows_longer_than_the_bound(self):
        row = again.thickened(["xy", (0, 2), (0, 4), (1, 7)] + [(3, 12)] * 60)
        self.assertGreater(len(row), 700)
        self.assertEqual(again.thickened(again.thinned(row, 3)), row)
        i, j, k = again.longest_twin(row)
        self.assertEqual(row[i:i + k], row[j:j + k])
        self.assertIn((i, j, k), again.twins(row, k))

    def test_layings(self):
        source = random.Random(113)
        table = some_prices(source, "xyz")
        first, second = some_row(source, "xyz", 40), some_row(source, "xyz", 40)
        cost, begin, moves = cheapest.cheapest(table, first, second)
        self.assertEqual(layings.cost_of(table, first, second, begin, moves), cost)
        told = texts.read_laying(texts.written_laying(first, second, moves))
        self.assertEqual(told, (first, second, moves))
        pair = Block(texts.written_laying(first, second, moves).split("\n"))
        self.assertEqual(blocks.bare(mending.laid_anew(table, pair, 0), 0), first)


if __name__ == "__main__":
    unittest.main()
