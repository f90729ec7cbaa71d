import unittest

from lentwork.errors import Fallen
from lentwork.houses import Store
from tests.support import BIG, in_short_time, refused

TEXTS = ("a", "", "bc\n", "\n", "lent 3 ann 0 0\n", " !~ ", "no end", "\n\n")


class Written(unittest.TestCase):
    def check(self, store, text, count):
        # Asked twice: what only tells changes nothing.
        for _ in range(2):
            self.assertEqual((store.whole_text(), store.asked_for()), (text, count))

    def test_a_new_store(self):
        for store in (Store(), Store(None), Store(lambda count: None), Store(lambda count: 0)):
            self.check(store, "", 0)

    def test_written_behind(self):
        for store in (Store(), Store(None), Store(lambda count: None)):
            for count, text in enumerate(TEXTS):
                self.assertIsNone(store.write(text))
                self.check(store, "".join(TEXTS[:count + 1]), count + 1)

    def test_stores_know_nothing_of_one_another(self):
        one, other = Store(), Store()
        one.write("one")
        self.check(other, "", 0)
        other.write("other")
        other.write("more")
        self.check(one, "one", 1)
        self.check(other, "othermore", 2)

    def test_three_thousand_writings(self):
        store = Store(lambda count: None)

        def write_all():
            for _ in range(3000):
                store.write("x" * 100)

        in_short_time(self, write_all)
        self.check(store, "x" * 300000, 3000)


class Falls(unittest.TestCase):
    def test_the_fall_is_asked_with_the_count_and_the_text_as_they_were(self):
        asked = []
        store = Store(lambda count: asked.append((count, store.whole_text())))
        for text in TEXTS:
            store.write(text)
        self.assertEqual(asked, [(count, "".join(TEXTS[:count])) for count in range(len(TEXTS))])
        self.assertEqual({type(count) for count, text in asked}, {int})

    def test_it_is_asked_of_a_writing_that_falls_too(self):
        asked = []

        def fall(count):
            asked.append((count, store.whole_text()))
            return 2 if count % 2 else None

        store = Store(fall)
        store.write("abc")
        refused(self, Fallen, store.write, "def")
        store.write("ghi")
        refused(self, Fallen, store.write, "jkl")
        refused(self, Fallen, Store(lambda count: 0).write, "")
        self.assertEqual(asked, [(0, ""), (1, "abc"), (2, "abcde"), (3, "abcdeghi")])
        self.assertEqual((store.whole_text(), store.asked_for()), ("abcdeghijk", 4))

    def test_telling_asks_for_no_fall(self):
        asked = []
        store = Store(asked.append)
        store.whole_text()
        store.asked_for()
        self.assertEqual(asked, [])

    def test_so_many_signs_are_written(self):
        for ahead in ("", "ahead\n", "torn"):
            for text in ("abcde\nfg\n", "x", "\n"):
                for signs in (-BIG, -9, -2, -1, *range(12), BIG):
                    store = Store(lambda count: signs if count else None)
                    store.write(ahead)
                    refused(self, Fallen, store.write, text)
                    stays = "".join(sign for seat, sign in enumerate(text) if seat < signs)
                    self.assertEqual((store.whole_text(), store.asked_for()), (ahead + stays, 2))

    def test_a_text_without_signs_falls_too(self):
        for signs in (-1, 0, 1):
            store = Store(lambda count: signs)
            refused(self, Fallen, store.write, "")
            self.assertEqual((store.whole_text(), store.asked_for()), ("", 1))

    def test_writing_goes_on_behind_a_fall(self):
        falls = {1: 0, 2: 3, 4: 2, 5: 99, 6: -4}
        store = Store(falls.get)
        texts = ("one ", "two ", "three ", "four ", "five ", "six ", "seven ", "eight")
        for count, text in enumerate(texts):
            if count in falls:
                refused(self, Fallen, store.write, text)
            else:
                self.assertIsNone(store.write(text))
            self.assertEqual(store.asked_for(), count + 1)
        self.assertEqual(store.whole_text(), "one thrfour fisix eight")


if __name__ == "__main__":
    unittest.main()
