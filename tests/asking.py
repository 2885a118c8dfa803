"""What every test of a question has in common: it is asked twice, and nothing handed in is changed."""

import copy
import time
import unittest

SOME_SECONDS = 5


class Asking(unittest.TestCase):
    def tell(self, wanted, ask, *given):
        """What is told is wanted, to the kind: the texts are compared, for (1,) == (True,)."""
        before = copy.deepcopy(given)
        for _ in range(2):
            told = ask(*given)
            self.assertEqual(repr(told), repr(wanted), f"{ask.__name__}{given!r}"[:300])
            if isinstance(told, list):
                self.spoil(told)
        self.assertEqual(repr(given), repr(before), "changed")

    def spoil(self, told):
        """A told list is the asker's own: what is done to it must not show in a later answer."""
        told.append("spoiled")
        told[0] = "spoiled"
        told.reverse()

    def refuse(self, error, ask, *given):
        before = copy.deepcopy(given)
        for _ in range(2):
            with self.assertRaises(error, msg=f"{ask.__name__}{given!r}"[:300]) as caught:
                ask(*given)
            self.assertIs(type(caught.exception), error)
        self.assertEqual(repr(given), repr(before), "changed")
        return str(caught.exception)

    def tell_soon(self, wanted, ask, *given):
        start = time.perf_counter()
        told = ask(*given)
        self.assertLess(time.perf_counter() - start, SOME_SECONDS, ask.__name__)
        self.assertEqual(repr(told), repr(wanted))
