"""Promise 28, and 10 (a) to (c) for albums."""

import random
import unittest

import oracle
import wrong
from promise_case import PromiseCase, screens_at
from wrapclues.albums import Album
from wrapclues.errors import InvalidIndex, InvalidLengths, InvalidNumber, InvalidWidth, NothingToUndo, ScreensClash
from wrapclues.fitting import count_texts
from wrapclues.positions import pattern_of

LONG_TEXT = [3, 1, 2] * 66 + [6]


def album_of(characters, screens):
    album = Album(characters)
    for width, lengths in screens:
        album.add_screen(width, lengths)
    return album


def fitting(characters, screens):
    """The texts with this number of characters that fit the screens, tried one by one."""
    return [text for text in oracle.all_texts(characters)
            if all(oracle.wrap_of(text, width) == lengths for width, lengths in screens)]


class AlbumCase(PromiseCase):

    def state(self, album):
        return [album.all_screens(), album.log(), len(album), album.pattern(), album.texts_left()]

    def assert_state(self, album, screens, log):
        self.assert_same(album.all_screens(), screens)
        self.assert_same(album.log(), log)
        self.assert_same(len(album), len(screens))

    def assert_refused(self, error, album, method, *arguments):
        """The call raises this error and changes nothing; returns the error."""
        before = self.state(album)
        raised = self.assert_raises_only(error, getattr(album, method), *arguments)
        self.assert_same(self.state(album), before)
        return raised

    def assert_told(self, album, texts):
        """Pattern and count are those of the texts that fit."""
        self.assert_same(album.pattern(), oracle.pattern_by_texts(texts))
        self.assert_same(album.texts_left(), len(texts))


class CreationTest(AlbumCase):

    def test_without_screens(self):
        for characters in range(1, 13):
            album = Album(characters)
            self.assert_state(album, [], [])
            self.assert_told(album, oracle.all_texts(characters))
            pattern = "x" if characters == 1 else "x" + "?" * (characters - 2) + "x"
            self.assertEqual(album.pattern(), pattern)

    def test_600_characters_without_screens(self):
        album = Album(600)
        self.assert_same(album.pattern(), "x" + "?" * 598 + "x")
        self.assert_same(album.texts_left(), oracle.fibonacci(600))
        self.assert_same(Album(599).texts_left(), oracle.fibonacci(599))

    def test_wrong_numbers(self):
        for value in wrong.NO_INTEGERS + [0, -1, -600, 601, 1000, 10 ** 160, -10 ** 160]:
            self.assert_raises_only(InvalidNumber, Album, value)

    def test_arguments_by_name(self):
        album = Album(characters=8)
        album.add_screen(lengths=[5, 2], width=5)
        self.assertEqual(album.texts_with(lengths=[3, 1, 2], width=3), 2)
        album.remove_screen(index=0)
        self.assertEqual(album.log(), [("add_screen", 5, [5, 2]), ("remove_screen", 0)])


class AddTest(AlbumCase):

    def test_one_screen_against_all_texts(self):
        for characters in range(1, 9):
            for width, lengths in oracle.all_screens(characters, list(range(1, characters + 3)) + [1000]):
                album = Album(characters)
                texts = fitting(characters, [(width, lengths)])
                if texts:
                    self.assertIsNone(album.add_screen(width, lengths))
                    self.assert_state(album, [(width, lengths)], [("add_screen", width, lengths)])
                    self.assert_told(album, texts)
                else:
                    self.check_clash(album, width, lengths)

    def check_clash(self, album, width, lengths):
        error = self.assert_refused(ScreensClash, album, "add_screen", width, lengths)
        self.assertIsInstance(error.clash, tuple)
        self.assertIn(error.clash, oracle.clashes_of(album.all_screens() + [(width, lengths)]))

    def test_two_screens_against_all_texts(self):
        for characters in (3, 5, 6):
            screens = oracle.all_screens(characters, range(1, characters + 2))
            for first in screens:
                if not fitting(characters, [first]):
                    continue
                for second in screens[::2]:
                    album = album_of(characters, [first])
                    texts = fitting(characters, [first, second])
                    self.assert_same(album.texts_with(*second), len(texts))
                    if texts:
                        album.add_screen(*second)
                        self.assert_told(album, texts)
                    else:
                        self.check_clash(album, *second)

    def test_three_screens_against_all_texts(self):
        for text in oracle.all_texts(10)[::3]:
            screens = screens_at(text, [4, 6, 3])
            album = Album(10)
            for size, (width, lengths) in enumerate(screens):
                texts = fitting(10, screens[:size + 1])
                self.assert_same(album.texts_with(width, lengths), len(texts))
                album.add_screen(width, lengths)
                self.assert_told(album, texts)

    def test_the_same_screen_again(self):
        album = album_of(8, [(5, [5, 2])] * 3)
        self.assertEqual([len(album), album.texts_left(), len(album.log())], [3, 5, 3])

    def test_forty_screens_of_600_characters(self):
        screens = screens_at(LONG_TEXT, range(60, 100))
        album = album_of(600, screens)
        pattern = oracle.pattern_by_reasons(screens)
        self.assert_state(album, screens, [("add_screen", width, lengths) for width, lengths in screens])
        self.assert_same(album.pattern(), pattern)
        self.assert_same(album.texts_left(), oracle.product_over_groups(pattern))
        more = screens_at(LONG_TEXT, [3])[0]
        count = oracle.product_over_groups(oracle.pattern_by_reasons(screens + [more]))
        self.assert_same(album.texts_with(*more), count)
        self.check_clash(album, 59, [600])
        self.assert_same(album.texts_with(59, [600]), 0)
        for at in (39, 0, 17):
            album.remove_screen(at)
            del screens[at]
            self.assert_same(album.pattern(), oracle.pattern_by_reasons(screens))
        for _ in range(43):
            album.undo()
        self.assert_state(album, [], [])
        self.assert_same(album.texts_left(), oracle.fibonacci(600))

    def test_wrong_widths_come_first(self):
        album = album_of(8, [(5, [5, 2])])
        for value in wrong.NO_WIDTHS:
            for lengths in ([5, 2], [4, 3], [9], [0], None):
                for method in ("add_screen", "texts_with"):
                    self.assert_refused(InvalidWidth, album, method, value, lengths)

    def test_wrong_lengths_come_next(self):
        for album in (Album(8), album_of(8, [(5, [5, 2])]), Album(600)):
            for value in wrong.NO_LENGTH_LISTS + [[7], [9], [5, 1], [5, 3], [1], [599], [1, 599]]:
                for width in (1, 5, 1000):
                    for method in ("add_screen", "texts_with"):
                        self.assert_refused(InvalidLengths, album, method, width, value)

    def test_other_number_of_characters(self):
        for characters in (1, 2, 599, 600):
            for other in (1, 2, 599, 600):
                if other != characters:
                    self.assert_refused(InvalidLengths, Album(characters), "add_screen", 5, [other])
                    self.assert_refused(InvalidLengths, Album(characters), "texts_with", 5, [other])
            self.assertIsNone(Album(characters).add_screen(5, [characters]))

    def test_screens_that_clash(self):
        for screens in wrong.CLASHING:
            album = album_of(8, screens[:-1])
            self.check_clash(album, *screens[-1])
            self.assert_same(album.texts_with(*screens[-1]), 0)


class TextsWithTest(AlbumCase):

    def test_it_adds_nothing(self):
        album = album_of(8, [(5, [5, 2])])
        before = self.state(album)
        for width, lengths in oracle.all_screens(8, [1, 3, 4, 5, 8, 1000]):
            self.assert_same(album.texts_with(width, lengths), len(fitting(8, [(5, [5, 2]), (width, lengths)])))
        self.assert_same(self.state(album), before)

    def test_without_screens(self):
        for characters in range(1, 9):
            album = Album(characters)
            for width, lengths in oracle.all_screens(characters, list(range(1, characters + 2)) + [1000]):
                self.assert_same(album.texts_with(width, lengths), len(fitting(characters, [(width, lengths)])))
            self.assert_state(album, [], [])


class RemoveTest(AlbumCase):

    def test_each_one(self):
        screens = screens_at([3, 1, 2, 2], [3, 4, 6])
        for index in range(3):
            album = album_of(11, screens)
            self.assertIsNone(album.remove_screen(index))
            log = [("add_screen", width, lengths) for width, lengths in screens] + [("remove_screen", index)]
            self.assert_state(album, screens[:index] + screens[index + 1:], log)
            self.assert_told(album, fitting(11, album.all_screens()))

    def test_the_last_one_that_is_left(self):
        album = album_of(8, [(5, [5, 2])])
        album.remove_screen(0)
        self.assert_state(album, [], [("add_screen", 5, [5, 2]), ("remove_screen", 0)])
        self.assert_told(album, oracle.all_texts(8))
        self.assert_refused(InvalidIndex, album, "remove_screen", 0)
        album.add_screen(4, [4, 3])
        self.assertEqual(album.texts_left(), 6)

    def test_wrong_indices(self):
        for screens in ([], [(5, [5, 2])], [(5, [5, 2]), (3, [3, 1, 2])]):
            album = album_of(8, screens)
            for value in wrong.NO_INTEGERS + [-1, -2, len(screens), len(screens) + 1, 40, 10 ** 160, -10 ** 160]:
                self.assert_refused(InvalidIndex, album, "remove_screen", value)


class Model:
    """An album as a list of its states."""

    def __init__(self):
        self.states = [([], [])]

    def screens(self):
        return self.states[-1][0]

    def log(self):
        return self.states[-1][1]

    def add(self, screen):
        self.states.append((self.screens() + [screen], self.log() + [("add_screen",) + screen]))

    def remove(self, at):
        self.states.append((self.screens()[:at] + self.screens()[at + 1:], self.log() + [("remove_screen", at)]))

    def undo(self):
        self.states.pop()

    def copy(self):
        model = Model()
        model.states = list(self.states)
        return model


class SequenceTest(AlbumCase):

    def step(self, draw, album, model, candidates):
        """A drawn operation on both; a screen that clashes changes none of them."""
        what = draw.choice(["add", "add", "add", "remove", "undo"])
        if what == "add":
            width, lengths = draw.choice(candidates)
            if oracle.clashes_of(model.screens() + [(width, lengths)]):
                self.assert_raises_only(ScreensClash, album.add_screen, width, list(lengths))
            else:
                album.add_screen(width, list(lengths))
                model.add((width, lengths))
        elif what == "remove" and model.screens():
            at = draw.randrange(len(model.screens()))
            album.remove_screen(at)
            model.remove(at)
        elif what == "undo" and model.log():
            self.assertIsNone(album.undo())
            model.undo()
        self.assert_state(album, model.screens(), model.log())

    def undo_all(self, album, model):
        while model.log():
            album.undo()
            model.undo()
            self.assert_state(album, model.screens(), model.log())
        self.assert_refused(NothingToUndo, album, "undo")
        self.assert_refused(NothingToUndo, album, "undo")
        self.assertEqual(album, Album(album.characters))

    def candidates(self, draw, characters):
        text = draw.choice(oracle.all_texts(characters))
        screens = screens_at(text, list(range(1, characters + 1)) * 2)
        return screens + draw.sample(oracle.all_screens(characters, range(1, characters + 2)), 6)

    def test_long_mixed_sequences(self):
        for seed in range(30):
            draw = random.Random(seed)
            characters = draw.randint(3, 9)
            candidates = self.candidates(draw, characters)
            album, model = Album(characters), Model()
            for number in range(60):
                self.step(draw, album, model, candidates)
                if number in (20, 59):
                    self.assert_told(album, fitting(characters, model.screens()))
            self.undo_all(album, model)

    def test_clones_are_independent(self):
        for seed in range(15):
            draw = random.Random(100 + seed)
            characters = draw.randint(3, 9)
            candidates = self.candidates(draw, characters)
            album, model = Album(characters), Model()
            for _ in range(20):
                self.step(draw, album, model, candidates)
            other, other_model = album.clone(), model.copy()
            self.assertIsInstance(other, Album)
            self.assertIsNot(other, album)
            self.assert_state(other, model.screens(), model.log())
            self.assertEqual(other, album)
            for _ in range(20):
                self.step(draw, album, model, candidates)
                self.step(draw, other, other_model, candidates)
                self.assert_state(album, model.screens(), model.log())
            for one, one_model in ((album, model), (other, other_model)):
                self.assert_told(one, fitting(characters, one_model.screens()))
            self.undo_all(other, other_model)
            self.assert_state(album, model.screens(), model.log())
            self.undo_all(album, model)

    def test_undo(self):
        album = Album(8)
        self.assert_refused(NothingToUndo, album, "undo")
        album.add_screen(5, [5, 2])
        album.add_screen(3, [3, 1, 2])
        album.remove_screen(0)
        album.undo()
        log = [("add_screen", 5, [5, 2]), ("add_screen", 3, [3, 1, 2])]
        self.assert_state(album, [(5, [5, 2]), (3, [3, 1, 2])], log)
        album.undo()
        self.assert_state(album, [(5, [5, 2])], [("add_screen", 5, [5, 2])])
        self.assertEqual(album.texts_left(), 5)
        album.undo()
        self.assert_state(album, [], [])
        self.assert_refused(NothingToUndo, album, "undo")

    def test_what_was_refused_is_not_in_the_log(self):
        album = album_of(8, [(5, [5, 2])])
        self.assert_refused(ScreensClash, album, "add_screen", 4, [4, 3])
        self.assert_refused(InvalidLengths, album, "add_screen", 4, [4, 4])
        self.assert_refused(InvalidIndex, album, "remove_screen", 1)
        album.undo()
        self.assert_state(album, [], [])


class EqualityTest(AlbumCase):

    def cases(self):
        """Albums, each with its number of characters and the texts that fit it."""
        for characters in range(1, 7):
            texts = oracle.all_texts(characters)
            yield Album(characters), (characters, texts)
            for screens, fitted in oracle.fitted_lists(characters, range(1, characters + 2), [characters - 2]):
                yield album_of(characters, screens), (characters, fitted)

    def test_equal_exactly_if_the_same_texts_fit(self):
        cases = list(self.cases())
        for album, texts in cases:
            for other, other_texts in cases:
                self.assertIs(album == other, texts == other_texts)
                self.assertIs(album != other, texts != other_texts)

    def test_other_screens_and_other_orders(self):
        one, other = album_of(8, [(7, [5, 2])]), album_of(8, [(5, [5, 2])])
        self.assertTrue(one == other)
        other.add_screen(6, [5, 2])
        self.assertTrue(one == other)
        other.add_screen(3, [3, 1, 2])
        self.assertFalse(one == other)
        one.add_screen(3, [3, 1, 2])
        self.assertTrue(one == other)
        screens = screens_at(LONG_TEXT, range(60, 80))
        self.assertEqual(album_of(600, screens), album_of(600, screens[::-1]))
        self.assertEqual(album_of(600, screens), album_of(600, screens + screens))
        self.assertNotEqual(album_of(600, screens), album_of(600, screens[:1]))
        one.undo()
        self.assertTrue(one != other)

    def test_without_screens(self):
        self.assertEqual(Album(8), Album(8))
        self.assertEqual(Album(8), album_of(8, [(1000, [8])]))
        self.assertEqual(Album(8), album_of(8, [(8, [8])]))
        self.assertNotEqual(Album(8), album_of(8, [(7, [8])]))
        self.assertNotEqual(Album(8), Album(9))
        self.assertNotEqual(Album(600), Album(599))
        self.assertEqual(Album(1), album_of(1, [(1, [1])]))

    def test_other_values(self):
        album = album_of(8, [(5, [5, 2])])
        values = [None, True, 8, "x???x_xx", [(5, [5, 2])], album.all_screens(), album.log(), (8,), {}, object(), Album,
                  wrong.EqualToAll(), 1, 0, False, [], ""]
        for value in values:
            self.assertIs(album == value, False, repr(value))
            self.assertIs(album != value, True, repr(value))

    def test_the_log_does_not_count(self):
        album = album_of(8, [(5, [5, 2]), (3, [3, 1, 2])])
        album.remove_screen(1)
        self.assertEqual(album, album_of(8, [(5, [5, 2])]))


class ConventionsTest(AlbumCase):

    def test_passed_lists_are_copied(self):
        album, lengths = Album(8), [5, 2]
        album.add_screen(5, lengths)
        lengths.append(7)
        lengths[0] = 99
        self.assert_state(album, [(5, [5, 2])], [("add_screen", 5, [5, 2])])
        self.assertEqual(album.texts_left(), 5)
        album.remove_screen(0)
        album.undo()
        self.assert_state(album, [(5, [5, 2])], [("add_screen", 5, [5, 2])])

    def test_passed_lists_are_unchanged(self):
        album, lengths = Album(8), [5, 2]
        album.texts_with(5, lengths)
        album.add_screen(5, lengths)
        self.assert_refused(ScreensClash, album, "add_screen", 8, lengths)
        self.assertEqual(lengths, [5, 2])

    def test_returned_lists_are_new(self):
        album = album_of(8, [(5, [5, 2]), (3, [3, 1, 2])])
        album.remove_screen(1)
        album.undo()
        other = album.clone()
        before = self.state(album)
        for one in (album, other):
            screens, log = one.all_screens(), one.log()
            screens[0][1].append(7)
            screens[1][1].clear()
            screens.pop()
            log[0][2][0] = 99
            log[1][2].clear()
            log.append(("remove_screen", 0))
            self.assert_same(self.state(album), before)
            self.assert_same(self.state(other), before)

    def test_lists_of_a_clone_and_after_undo_are_new(self):
        album = album_of(8, [(5, [5, 2])])
        album.all_screens()[0][1].append(1)
        other = album.clone()
        other.log()[0][2].append(1)
        album.undo()
        self.assert_state(other, [(5, [5, 2])], [("add_screen", 5, [5, 2])])
        self.assertEqual(album.all_screens(), [])

    def test_albums_do_not_share_screens(self):
        album, other = Album(8), Album(8)
        album.add_screen(5, [5, 2])
        self.assertEqual([len(album), len(other), other.all_screens(), other.log()], [1, 0, [], []])

    def test_they_agree_with_the_functions(self):
        screens = [(5, [5, 2]), (3, [3, 1, 2])]
        album = album_of(8, screens)
        self.assertEqual([album.pattern(), album.texts_left()], [pattern_of(screens), count_texts(screens)])
        self.assertEqual([album.pattern(), album.texts_left()], ["x?x_x_xx", 2])


if __name__ == "__main__":
    unittest.main()
