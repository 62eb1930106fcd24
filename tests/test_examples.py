"""The examples of the document, as they stand there, in one session.

Each file of the folder examples has one group of them; a row "raises Name(..)"
below a call tells the error and its fields.
"""

import unittest
from pathlib import Path

from readorder import errors

FOLDER = Path(__file__).parent / "examples"


def examples_in(text):
    """The (code, wanted) pairs of a group; wanted is None where no result is shown."""
    pairs = []
    for line in text.splitlines():
        if line.startswith(">>> "):
            pairs.append((line[4:], None))
        else:
            pairs[-1] = (pairs[-1][0], line)
    return pairs


def shown(code, session):
    """What the session shows for a call, None for a statement or no result."""
    try:
        compiled = compile(code, "example", "eval")
    except SyntaxError:
        exec(code, session)
        return None
    try:
        result = eval(compiled, session)
    except errors.ReadError as error:
        fields = ", ".join(f"{field}={value!r}" for field, value in vars(error).items())
        return f"raises {error.__class__.__name__}({fields})"
    return None if result is None else repr(result)


class ExamplesTest(unittest.TestCase):
    def test_the_session(self):
        session = {}
        for path in sorted(FOLDER.glob("*.txt")):
            for code, wanted in examples_in(path.read_text()):
                with self.subTest(group=path.name, code=code):
                    found = shown(code, session)
                    if wanted is not None and wanted.startswith("raises ") and "(" not in wanted:
                        found = (found or "").partition("(")[0]
                    self.assertEqual(found, wanted)

    def test_all_groups_are_there(self):
        counts = {path.name: len(examples_in(path.read_text())) for path in FOLDER.glob("*.txt")}
        self.assertEqual(counts, {
            "01_logs.txt": 12, "02_readers.txt": 7, "03_groups.txt": 10, "04_orders.txt": 14, "05_certain.txt": 12,
            "06_adding.txt": 3, "07_swaps.txt": 7, "08_counting.txt": 5, "09_joining.txt": 6, "10_recorder.txt": 7,
            "11_texts.txt": 5, "12_desk.txt": 5,
        })


if __name__ == "__main__":
    unittest.main()
