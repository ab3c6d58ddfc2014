"""The interface: names and arguments as they stand in the document."""

import importlib
import inspect
import unittest

FUNCTIONS = {
    "earlyscribe.words": {"common_of": ["words"], "gap_of": ["one", "other"]},
    "earlyscribe.scribes": {
        "is_scribe": ["thing"],
        "is_plain": ["scribe"],
        "walked_by": ["scribe", "way"],
        "written_for": ["scribe", "text"],
        "all_written": ["scribe", "text"],
    },
    "earlyscribe.trims": {
        "useful_rooms": ["scribe"],
        "way_through": ["scribe", "room"],
        "trimmed_of": ["scribe"],
    },
    "earlyscribe.early": {"heads_of": ["scribe"], "earliest_of": ["scribe"]},
    "earlyscribe.forms": {"plainest_of": ["scribe"]},
    "earlyscribe.aparts": {"apart_text": ["one", "other"]},
    "earlyscribe.joins": {"joined_behind": ["one", "other"]},
    "earlyscribe.choices": {"two_ways": ["scribe"]},
    "earlyscribe.makings": {"made_plain": ["scribe"]},
    "earlyscribe.mirrors": {
        "mirrored": ["scribe"],
        "either_of": ["one", "other"],
        "kept_to": ["scribe", "other"],
    },
    "earlyscribe.passes": {"first_way": ["scribe", "text"], "two_passes": ["scribe"]},
    "earlyscribe.texts": {"shown_scribe": ["scribe"], "read_scribe": ["text"]},
}


class Interface(unittest.TestCase):

    def test_functions_and_their_arguments(self):
        for module, functions in FUNCTIONS.items():
            for name, arguments in functions.items():
                with self.subTest(module=module, name=name):
                    function = getattr(importlib.import_module(module), name)
                    self.assertEqual(list(inspect.signature(function).parameters), arguments)


if __name__ == "__main__":
    unittest.main()
