import importlib
import inspect
import unittest

# The names and arguments of the interface.
INTERFACE = {
    "hands": ("read_hands(text)", "show_hands(hands)", "told_hand(hand, way)", "told_hands(hands, many, way)"),
    "shelves": ("way(shelf, table, key, field)", "had(shelf, table, key, field)", "all_had(shelf, table, key, fields)"),
    "templates": ("read_template(text)", "show_template(T)", "fill(T, F)", "asked(T)"),
    "ladder": ("fits(rows, text)", "rival(rows, place, step)", "step_of(rows, place)", "letter(n)", "pointings(rows)"),
    "texts": ("read_text(text)", "show_text(parts)", "note_keys(work)"),
    "setting": ("listed(shelf, keys, many)", "in_order(shelf, table, keys, fields)",
                "steps_of(shelf, table, keys, ladder)", "set_text(shelf, table, style, text)"),
    "pools": ("pool_of(book, shelf, rules)", "pour(one, other)", "heap_of(pool, name)", "tells(heap, field)",
              "shelf_of(pool)"),
    "changes": ("put_in(rows, row, place)", "changes(rows, row, place)"),
    "marks": ("marked(T, F)", "write_list(shelf, table, keys, T)", "read_list(text)"),
    "desk": ("Desk()",),
}


class Interface(unittest.TestCase):

    def test_names_and_arguments(self):
        for name, functions in INTERFACE.items():
            module = importlib.import_module("citeward." + name)
            for written in functions:
                with self.subTest(written):
                    function = getattr(module, written.partition("(")[0])
                    self.assertEqual(function.__name__ + str(inspect.signature(function)), written)

    def test_the_desk(self):
        desk = importlib.import_module("citeward.desk").Desk()
        self.assertEqual(str(inspect.signature(desk.say)), "(row)")


if __name__ == "__main__":
    unittest.main()
