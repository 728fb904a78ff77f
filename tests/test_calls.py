"""What holds for all functions: arguments by name, unchanged arguments, the same result again."""

from copy import deepcopy

from movingpages.edits import extend_history, insert_row, move_row, remove_row
from movingpages.errors import PagesError
from movingpages.requests import is_schedule, page_of, run_schedule, sent_live
from movingpages.rows import is_history, is_row, is_row_set, is_version, live_rows
from tests.samples import PagesTest, any_values, nested

HISTORY = (("a", "b", "c"), ("c", "b"))
VERSION = ("c", "b", "d")
SCHEDULE = ((0, 2), (1, 1), (1, 1000))


def calls():
    """Return pairs of a function and new arguments by name, in the order of its parameters."""
    some = [
        (live_rows, {"history": HISTORY}),
        (page_of, {"version": VERSION, "sent": ("d", "x"), "count": 1}),
        (run_schedule, {"history": HISTORY, "schedule": SCHEDULE}),
        (sent_live, {"history": HISTORY, "schedule": SCHEDULE}),
        (is_history, {"value": HISTORY}),
        (is_schedule, {"history": HISTORY, "value": SCHEDULE}),
        (insert_row, {"version": VERSION, "row": "a", "index": 1}),
        (remove_row, {"version": VERSION, "row": "b"}),
        (move_row, {"version": VERSION, "row": "b", "index": 2}),
        (extend_history, {"history": HISTORY, "edit": ("insert", "d", 0)}),
        (extend_history, {"history": HISTORY, "edit": ("insert", "a", 0)}),
        (extend_history, {"history": HISTORY, "edit": ("remove", "b")}),
        (extend_history, {"history": HISTORY, "edit": ("move", "b", 0)}),
    ]
    for value in any_values():
        some += [
            (is_row, {"value": value}),
            (is_version, {"value": value}),
            (is_history, {"value": value}),
            (is_row_set, {"history": HISTORY, "value": value}),
            (is_schedule, {"history": HISTORY, "value": value}),
            (insert_row, {"version": VERSION, "row": value, "index": value}),
            (insert_row, {"version": VERSION, "row": "a", "index": value}),
            (remove_row, {"version": VERSION, "row": value}),
            (move_row, {"version": VERSION, "row": value, "index": value}),
            (move_row, {"version": VERSION, "row": "b", "index": value}),
            (extend_history, {"history": HISTORY, "edit": value}),
            (extend_history, {"history": HISTORY, "edit": ("insert", value, value)}),
            (extend_history, {"history": HISTORY, "edit": ("remove", value)}),
            (extend_history, {"history": HISTORY, "edit": ("move", "b", value)}),
        ]
    return some


def outcome(function, *arguments, **named):
    """Return what the call returns, or what it raises."""
    try:
        return ("returned", function(*arguments, **named))
    except PagesError as raised:
        return (raised.__class__.__name__, vars(raised))


class CallsTest(PagesTest):
    def test_by_position_and_by_name(self):
        for function, named in calls():
            by_position = outcome(function, *named.values())
            self.assertEqual(outcome(function, **named), by_position)
            backwards = dict(reversed(list(named.items())))
            self.assertEqual(outcome(function, **backwards), by_position)

    def test_arguments_are_unchanged(self):
        for function, named in calls():
            before = deepcopy(named)
            outcome(function, **named)
            self.assertEqual(named, before)

    def test_the_same_call_again(self):
        for function, named in calls():
            first = deepcopy(outcome(function, **named))
            for _ in range(3):
                self.assertEqual(outcome(function, **deepcopy(named)), first)

    def test_an_error_carries_the_very_value(self):
        row = nested("mixed", 30)
        for function, arguments in [(insert_row, (VERSION, row, 0)), (remove_row, (VERSION, row))]:
            self.assertIs(outcome(function, *arguments)[1]["row"], row)
        edit = ("insert", row)
        self.assertIs(outcome(extend_history, HISTORY, edit)[1]["edit"], edit)
