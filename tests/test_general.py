"""What the document promises over the whole program: arguments, lists and tuples, copies, and repeated queries."""

import importlib
import inspect
import itertools
import random
import unittest

from spanrows.books import Book, is_name
from spanrows.cells import Sheet
from spanrows.console import Console
from spanrows.grids import (Grid, carried_box, check_grid_script, difference_box, fewest_grid, plan_grid, run_grid)
from spanrows.layouts import Layout, clash, composed, labels_of, merged
from spanrows.needs import bound, breaks, check_bound, fewest, needed_labels
from spanrows.plans import plan, shortened, steps_of
from spanrows.scripts import check_script, run
from spanrows.spans import carried, difference, gone_spans, is_difference, is_span, sources
from spanrows.texts import layout_text, parse_script, script_text
from spanrows.watches import Alarm, Journal, Watch

GREAT = 10 ** 30 - 1
# The parameters that the interface lists; what stands behind a star is passed by name only.
FUNCTIONS = {
    "layouts": {"composed": "*layouts", "clash": "one other", "merged": "*layouts", "labels_of": "layout first last"},
    "scripts": {"check_script": "script", "run": "script * start"},
    "spans": {"is_span": "span", "carried": "layout span", "sources": "layout span", "difference": "one other",
              "is_difference": "one other claimed", "gone_spans": "layout"},
    "needs": {"needed_labels": "layout", "breaks": "layout", "fewest": "layout", "bound": "layout",
              "check_bound": "layout claimed"},
    "plans": {"steps_of": "layout", "plan": "layout", "shortened": "script"},
    "grids": {"check_grid_script": "script", "run_grid": "script", "carried_box": "grid box",
              "difference_box": "one other", "fewest_grid": "grid", "plan_grid": "grid"},
    "books": {"is_name": "text"},
    "texts": {"layout_text": "layout", "script_text": "script", "parse_script": "text"},
}
CLASSES = {
    "layouts": {"Layout": {"__init__": "pieces", "plain": "", "read": "text", "pieces": "", "row": "number",
                           "where": "old"}},
    "grids": {"Grid": {"__init__": "rows columns", "plain": ""}},
    "cells": {"Sheet": {"__init__": "", "put": "cell content", "erase": "cell", "content": "cell", "cells": "",
                        "value": "cell", "apply": "command", "apply_all": "script", "twin": ""}},
    "watches": {"Watch": {"__init__": "", "note": "span"}, "Journal": {"__init__": "", "note": "span", "told": ""},
                "Alarm": {"__init__": "", "note": "span", "told": ""}},
    "books": {"Book": {"__init__": "* depth", "change_depth": "value", "do": "deed", "do_all": "deeds", "undo": "",
                       "redo": "", "steps": "", "names": "", "span": "name", "layout": "", "attach": "name watch",
                       "twin": ""}},
    "console": {"Console": {"__init__": "book", "book": "", "run": "line"}},
}
SCRIPT = [("insert", 3, 2), ("delete", 1, 1), ("insert", 1, 3), ("insert", 0, 1)]
GRID_SCRIPT = [("insert_rows", 1, 2), ("delete_columns", 3, 4), ("delete_rows", 0, 0)]


def written(signature):
    """The parameters of a signature, without the object itself, as the tables above write them."""
    words, starred = [], False
    for name, parameter in signature.parameters.items():
        if parameter.kind == parameter.VAR_POSITIONAL:
            words.append("*" + name)
        elif name != "self":
            if parameter.kind == parameter.KEYWORD_ONLY and not starred:
                words.append("*")
                starred = True
            assert parameter.kind in (parameter.POSITIONAL_OR_KEYWORD, parameter.KEYWORD_ONLY)
            words.append(name)
    return " ".join(words)


def module(name):
    return importlib.import_module(f"spanrows.{name}")


class Parameters(unittest.TestCase):
    def test_functions(self):
        for place, functions in FUNCTIONS.items():
            for name, parameters in functions.items():
                self.assertEqual(written(inspect.signature(getattr(module(place), name))), parameters, name)

    def test_methods(self):
        for place, classes in CLASSES.items():
            for kind, methods in classes.items():
                for name, parameters in methods.items():
                    method = getattr(getattr(module(place), kind), name)
                    self.assertEqual(written(inspect.signature(method)), parameters, (kind, name))

    def test_defaults(self):
        self.assertIsNone(inspect.signature(run).parameters["start"].default)
        self.assertEqual(inspect.signature(Book.__init__).parameters["depth"].default, 100)
        self.assertEqual((run([("insert", 0, 1)], start=None), Book(depth=100).depth), (run([("insert", 0, 1)]), 100))

    def calls(self):
        """Functions and methods with their arguments in order, each by its name."""
        layout, other = run(SCRIPT), run([("insert", 2, 1)])
        grid, second = run_grid(GRID_SCRIPT), run_grid([])
        return [
            (clash, {"one": layout, "other": other}), (is_span, {"span": (0, None)}),
            (carried, {"layout": layout, "span": (0, 4)}), (sources, {"layout": layout, "span": (3, 6)}),
            (difference, {"one": layout, "other": other}), (gone_spans, {"layout": layout}),
            (is_difference, {"one": layout, "other": other, "claimed": (0, 5)}), (check_script, {"script": SCRIPT}),
            (run, {"script": SCRIPT}), (needed_labels, {"layout": layout}), (breaks, {"layout": layout}),
            (fewest, {"layout": layout}), (bound, {"layout": layout}), (plan, {"layout": layout}),
            (check_bound, {"layout": layout, "claimed": bound(layout)}), (shortened, {"script": SCRIPT}),
            (check_grid_script, {"script": GRID_SCRIPT}), (run_grid, {"script": GRID_SCRIPT}),
            (carried_box, {"grid": grid, "box": ((0, 4), (2, None))}), (difference_box, {"one": grid, "other": second}),
            (fewest_grid, {"grid": grid}), (plan_grid, {"grid": grid}), (Grid, {"rows": layout, "columns": other}),
            (Layout, {"pieces": layout.pieces()}), (Layout.read, {"text": str(layout)}), (layout.row, {"number": 4}),
            (layout.where, {"old": 4}), (is_name, {"text": "abc"}), (layout_text, {"layout": layout}),
            (script_text, {"script": SCRIPT}), (parse_script, {"text": "insert 1 2\n"}),
        ]

    def test_by_name_in_any_order(self):
        for call, named in self.calls():
            expected = call(*named.values())
            for order in itertools.permutations(named):
                self.assertEqual(call(**{name: named[name] for name in order}), expected, call)
            for many in range(len(named)):
                rest = list(named)[many:]
                ahead = [named[name] for name in list(named)[:many]]
                self.assertEqual(call(*ahead, **{name: named[name] for name in reversed(rest)}), expected, call)

    def test_generators_by_name(self):
        layout = run(SCRIPT)
        self.assertEqual(list(labels_of(last=4, layout=layout, first=1)), [layout.row(at) for at in range(1, 5)])
        self.assertEqual(list(steps_of(layout=layout)), plan(layout))

    def test_changes_by_name(self):
        sheet, book, watch = Sheet(), Book(depth=7), Journal()
        sheet.put(content=("sum", ((0, 1), (0, None))), cell=(4, 5))
        sheet.apply(command=GRID_SCRIPT[0])
        sheet.apply_all(script=GRID_SCRIPT[1:])
        self.assertEqual(sheet.content(cell=(5, 3)), ("sum", ((0, 2), (0, None))))
        sheet.erase(cell=(5, 3))
        self.assertIsNone(sheet.value(cell=(5, 3)))
        book.do(deed=("name", "a", (1, 2)))
        book.do_all(deeds=[("insert", 2, 1)])
        book.attach(watch=watch, name="a")
        book.change_depth(value=1)
        watch.note(span=None)
        self.assertEqual((book.span(name="a"), watch.told(), book.steps()), ((1, 3), [(1, 3), None], (1, 0)))
        self.assertEqual(Console(book=book).run(line="span a"), "1 3")


class ListsAndTuples(unittest.TestCase):
    def test_a_tuple_instead_of_a_list(self):
        layout = run(SCRIPT)
        word, number, entries, pairs = bound(layout)
        for call, items in [(run, SCRIPT), (shortened, SCRIPT), (script_text, SCRIPT), (check_script, SCRIPT),
                            (run_grid, GRID_SCRIPT), (check_grid_script, GRID_SCRIPT), (Layout, layout.pieces())]:
            kept = list(items)
            self.assertEqual(call(tuple(items)), call(items), call)
            self.assertEqual(items, kept)
        for claimed in [(word, number, tuple(entries), pairs), (word, number, entries, tuple(pairs)),
                        (word, number, tuple(entries), tuple(pairs))]:
            self.assertIs(check_bound(layout, claimed), True)
            self.assertIs(check_bound(layout, (word, number + 1) + claimed[2:]), False)
        one, other = Sheet(), Sheet()
        for sheet, script in ((one, GRID_SCRIPT), (other, tuple(GRID_SCRIPT))):
            sheet.put((7, 7), 1)
            sheet.apply_all(script)
        self.assertEqual(one, other)
        one, other = Book(), Book()
        one.do_all(SCRIPT)
        other.do_all(tuple(SCRIPT))
        self.assertEqual((one, one.steps()), (other, other.steps()))

    def test_objects_keep_copies(self):
        pieces = [("top", 1), ("old", 0, None)]
        layout = Layout(pieces)
        pieces.clear()
        self.assertEqual(str(layout), "top 1; old 0-")
        deeds, book = list(SCRIPT), Book()
        book.do_all(deeds)
        deeds[:] = [("insert", 0, 99)]
        book.undo()
        book.redo()
        self.assertEqual(book.layout(), run(SCRIPT))

    def test_at_most_400_items(self):
        script = [("insert", 2 * number, 1) for number in range(1, 30)] + [("insert", 0, 1)] * 371
        self.assertEqual(len(script), 400)
        book = Book()
        book.do_all(script)
        self.assertEqual((book.layout(), parse_script(script_text(script))), (run(script), script))

    def test_returned_values_may_be_passed_back(self):
        layout = run([("insert", GREAT, GREAT), ("insert", 0, GREAT), ("insert", 5, GREAT)])
        self.assertEqual(Layout(layout.pieces()), layout)
        self.assertEqual(run(plan(layout)), layout)
        span = carried(layout, (GREAT, None))
        for _ in range(5):
            span = carried(layout, span)
        book = Book()
        book.do(("name", "a", span))
        book.do_all(plan(layout))
        self.assertEqual((book.span("a"), book.layout()), (carried(layout, span), layout))
        self.assertEqual(layout.where(layout.row(span[0])[0]), span[0])
        self.assertEqual(script_text(plan(layout)).count("\n"), fewest(layout))


class Queries(unittest.TestCase):
    """Queries in any order: a repeated one returns an equal result, and nothing changes."""

    def spoil(self, result):
        """Changes the lists in a result."""
        if isinstance(result, tuple):
            for item in result:
                self.spoil(item)
        if isinstance(result, list):
            result.reverse()
            result.append("more")
            del result[0]

    def assert_steady(self, calls, seed):
        dice = random.Random(seed)
        # The results are shown as texts, since lists in them are changed.
        first = [repr(call()) for call in calls]
        for _ in range(6):
            for at in dice.sample(range(len(calls)), len(calls)):
                result = calls[at]()
                self.assertEqual(repr(result), first[at])
                self.spoil(result)

    def layout_queries(self, layout):
        other, script = run([("delete", 2, 2)]), list(SCRIPT)
        return [layout.pieces, lambda: layout.row(2), lambda: layout.where(4), lambda: str(layout), lambda: len(layout),
                lambda: (layout.top, layout.tail, layout.shift), lambda: list(labels_of(layout, 0, 9)),
                lambda: composed(layout, other).pieces(), lambda: merged(layout, other).pieces(),
                lambda: clash(layout, other), lambda: carried(layout, (0, 4)), lambda: sources(layout, (0, 4)),
                lambda: gone_spans(layout), lambda: difference(layout, other), lambda: needed_labels(layout),
                lambda: breaks(layout), lambda: bound(layout), lambda: fewest(layout), lambda: plan(layout),
                lambda: shortened(script), lambda: run(script, start=layout).pieces(), lambda: layout_text(layout),
                lambda: layout == other, lambda: Layout.plain().pieces(), lambda: repr(layout)]

    def test_layout(self):
        for script in ([], SCRIPT, [("insert", 2, 1), ("delete", 1, 1), ("insert", 1, 3)]):
            self.assert_steady(self.layout_queries(run(script)), 111)

    def test_grid(self):
        grid, other = run_grid(GRID_SCRIPT), Grid.plain()
        calls = [grid.rows.pieces, grid.columns.pieces, lambda: carried_box(grid, ((0, 2), (2, None))),
                 lambda: difference_box(grid, other), lambda: fewest_grid(grid), lambda: plan_grid(grid),
                 lambda: grid == other, lambda: repr(grid), lambda: other.rows.pieces()]
        self.assert_steady(calls + self.layout_queries(grid.rows) + self.layout_queries(grid.columns), 112)

    def test_sheet(self):
        sheet = Sheet()
        for cell, content in [((0, 0), 5), ((2, 1), 7), ((3, 3), ("sum", ((0, 2), (0, None))))]:
            sheet.put(cell, content)
        self.assert_steady([sheet.cells, lambda: sheet.content((3, 3)), lambda: sheet.value((3, 3)),
                            lambda: sheet.value((9, 9)), lambda: len(sheet), lambda: repr(sheet),
                            lambda: sheet.twin().cells(), lambda: sheet == Sheet()], 113)

    def test_book(self):
        book, watch = Book(), Alarm()
        book.do_all([("name", "a", (0, 5)), ("name", "b", (2, 2)), ("name", "c", (4, None))])
        book.attach("a", watch)
        for command in [*SCRIPT, ("delete", 3, 9)]:
            book.do(command)
        book.undo()
        console = Console(book)
        calls = [book.names, lambda: book.span("a"), lambda: book.span("b"), lambda: book.span("c"), book.steps,
                 lambda: book.depth, lambda: len(book), lambda: repr(book), lambda: book.twin().names(),
                 lambda: book == Book(), watch.told, lambda: (watch.notes, watch.seen, watch.alarms),
                 lambda: book.layout().pieces()]
        calls += [lambda line=line: console.run(line) for line in ("names", "layout", "span a", "fewest", "row 1")]
        self.assert_steady(calls + self.layout_queries(book.layout()), 114)

    def test_texts(self):
        text = "insert 2 10\ndelete 0 0\n"
        self.assert_steady([lambda: parse_script(text), lambda: script_text(SCRIPT),
                            lambda: Layout.read("top 1; old 0-").pieces()], 115)
        self.assertEqual(len(SCRIPT), 4)

    def test_watches_are_plain(self):
        self.assertEqual((Watch().notes, Journal().told(), Alarm().alarms), (0, [], 0))


if __name__ == "__main__":
    unittest.main()
