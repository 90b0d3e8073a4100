"""The lines that the interface shows, with the answers that stand there."""

import os
import unittest

FOLDER = os.path.join(os.path.dirname(os.path.abspath(__file__)), "examples")


def pairs_of(text):
    """Return the pairs (statement, answer) of a text; the answer is None if none is shown."""
    found = []
    for line in text.splitlines():
        if line.startswith(">>> "):
            found.append([line[4:], None])
        elif line and not line.startswith("#"):
            found[-1][1] = line
    return found


def shown(error, names):
    """Return an error as the interface writes it, with or without the names of its attributes."""
    parts = [f"{name}={worth!r}" if names else repr(worth) for name, worth in vars(error).items()]
    return f"raises {error.__class__.__name__}({', '.join(parts)})"


class Examples(unittest.TestCase):
    def check(self, statement, answer, space):
        if answer is None:
            exec(statement, space)
        elif answer.startswith("raises "):
            with self.assertRaises(Exception) as caught:
                eval(statement, space)
            self.assertIn(answer, (shown(caught.exception, False), shown(caught.exception, True)))
        else:
            self.assertEqual(repr(eval(statement, space)), answer)

    def test_each_line(self):
        for name in sorted(os.listdir(FOLDER)):
            if not name.endswith(".txt"):
                continue
            with open(os.path.join(FOLDER, name), encoding="ascii") as file:
                pairs = pairs_of(file.read())
            self.assertGreater(len(pairs), 5)
            space = {}
            for statement, answer in pairs:
                with self.subTest(file=name, line=statement):
                    self.check(statement, answer, space)


if __name__ == "__main__":
    unittest.main()
