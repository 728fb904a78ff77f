"""The examples e01 to e14 of the document."""

from movingpages.edits import extend_history, insert_row, move_row, remove_row
from movingpages.errors import DuplicateRow, ReturnedRow
from movingpages.requests import is_schedule, page_of, run_schedule, sent_live
from movingpages.rows import is_history, is_row, is_row_set, is_version, live_rows
from tests.samples import PagesTest


class ExamplesTest(PagesTest):
    def test_e01(self):
        told = [is_row("abc"), is_row("Abc"), is_version(("b", "a")), is_version(("a", "a"))]
        self.assertEqual(told, [True, False, True, False])

    def test_e02(self):
        told = [is_history((("a", "b"), ("b",), ("b", "c"))), is_history((("a",), (), ("a",)))]
        self.assertEqual(told, [True, False])

    def test_e03(self):
        self.assertEqual(live_rows((("a", "b"), ("c", "b"))), ("b", "c"))

    def test_e04(self):
        history = (("a", "b"), ("c", "b"))
        told = [is_row_set(history, value) for value in [("b", "c"), ("c", "b"), ("a",), ()]]
        self.assertEqual(told, [True, False, False, True])

    def test_e05(self):
        self.assertEqual(insert_row(("a", "b"), "c", 1), ("a", "c", "b"))

    def test_e06(self):
        self.assert_raises_with(DuplicateRow, "row", "b", insert_row, ("a", "b"), "b", 9)

    def test_e07(self):
        self.assertEqual(remove_row(("a", "b", "c"), "b"), ("a", "c"))

    def test_e08(self):
        self.assertEqual(move_row(("a", "b", "c", "d"), "a", 2), ("b", "c", "a", "d"))

    def test_e09(self):
        self.assertEqual(extend_history((("a", "b"),), ("move", "b", 0)), (("a", "b"), ("b", "a")))

    def test_e10(self):
        history = (("a", "b"), ("b",))
        self.assert_raises_with(ReturnedRow, "row", "a", extend_history, history, ("insert", "a", 7))

    def test_e11(self):
        self.assertEqual(page_of(("d", "a", "b", "c"), ("a",), 2), ("d", "b"))

    def test_e12(self):
        history = (("a", "b"), ("b", "a"))
        told = [is_schedule(history, value) for value in [((0, 1), (1, 5)), ((1, 1), (0, 1)), ()]]
        self.assertEqual(told, [True, False, True])

    def test_e13(self):
        history = (("a", "b", "c"), ("c", "a", "b"))
        self.assertEqual(run_schedule(history, ((0, 1), (1, 1), (1, 5))), (("a",), ("c",), ("b",)))

    def test_e14(self):
        self.assertEqual(sent_live((("a", "b", "c"), ("c", "b")), ((0, 2),)), ("b",))
