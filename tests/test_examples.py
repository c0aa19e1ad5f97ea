"""Every example of the document, for the sections that are built."""

import os
import unittest

from tests import doc_examples


class Examples(unittest.TestCase):
    def test_all_hold(self):
        # One run for all files: an example may use names of an earlier one.
        names = doc_examples.names_of_package()
        for name in doc_examples.files():
            with open(os.path.join(doc_examples.FOLDER, name), encoding="utf-8") as told:
                examples = doc_examples.parted(told.read())
            self.assertTrue(examples)
            for shown, wanted in examples:
                with self.subTest(file=name, example=shown):
                    self.assertIsNone(doc_examples.run(shown, wanted, names))


if __name__ == "__main__":
    unittest.main()
