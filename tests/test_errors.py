import inspect
import unittest

from oldaddress import errors, refusals

ERRORS = """BadAddresses(index), BadMost(most), BadLand(thing), BadDeeds(index), BadMoment(moment),
NoAddress(address), BadPiece(piece), BadIndex(index), CannotBeDone(deed), BadNumbers(index), NotMade(piece),
BadTimes(times), BadLife(life), BadHolder(holder), BadPolicy(policy), BadDue(due), BadPromise(promise),
BadWidth(width), BadTable(thing), BadView(view), NoWord(thing), BadMarks(marks), BadTurn(k), BadState(state),
UnlikeLands(), BadWord(word), BadDiscipline(thing), BadWithin(within), BadAsks(index), BadWish(wish),
BadPrices(prices)"""
REFUSALS = """BadBook(book), BadDay(day), BadPace(pace), BadRest(rest), BadMoves(moves), BadIdle(idle),
BadLetters(index), BadPostage(index), BadStamp(stamp), BadRent(rent), BadStays(index), BadMany(many),
BadHistory(history), BadOwners(owners), BadHeirs(heirs), BadTurns(index), NoHouse(house), BadHouses(index),
NotARow(), BadSeen(index), BadHistories(index), Crowded(address), BadFunction(thing), CanBeKept(),
BadWriter(writer), BadSlate(thing), BadTruth(thing), BadLooks(index), BadOrder(order), IsWatched(promise),
NotWatched(promise), Broken(promise), WouldBreak(promise), BadNumber(number), BadThing(thing), BadText(line)"""


def listed(module, text):
    """Triples (class, its parameter or "", its name)."""
    for part in text.replace("\n", " ").split(", "):
        name, parameter = part.rstrip(")").split("(")
        yield getattr(module, name), parameter, name


class Errors(unittest.TestCase):
    def test_address_error_is_a_direct_value_error(self):
        self.assertEqual(errors.AddressError.__bases__, (ValueError,))

    def test_all_are_direct_address_errors(self):
        for module, text in ((errors, ERRORS), (refusals, REFUSALS)):
            for error, _, name in listed(module, text):
                self.assertEqual(error.__bases__, (errors.AddressError,))
                self.assertEqual((error.__module__, error.__name__), (module.__name__, name))

    def test_they_keep_the_very_object_under_its_name(self):
        for module, text in ((errors, ERRORS), (refusals, REFUSALS)):
            for error, parameter, _ in listed(module, text):
                if parameter:
                    for thing in ([1, [2]], {"a": []}, None, True, -(10 ** 6000), lambda: 0, ([],)):
                        self.assertIs(getattr(error(thing), parameter), thing)
                        self.assertIs(getattr(error(**{parameter: thing}), parameter), thing)
                else:
                    self.assertIsInstance(error(), error)

    def test_parameters(self):
        for module, text in ((errors, ERRORS), (refusals, REFUSALS)):
            for error, parameter, _ in listed(module, text):
                self.assertEqual(list(inspect.signature(error).parameters), [parameter] if parameter else [])


if __name__ == "__main__":
    unittest.main()
