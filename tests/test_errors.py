import farheld.errors as errors
from tests.helpers import HeldTest

ATTRIBUTES = {
    "BadRatio": ["what"], "BadPlant": ["what", "mode"], "NoMode": ["mode"], "BadPhase": ["phase"],
    "BadTicks": ["ticks"], "BadTimes": ["repeats"], "BadUnit": ["unit"],
    "BadChannel": ["what", "phase", "word"], "NoWord": ["word"], "BadOrder": ["what"],
    "BadPeriod": ["one", "other"], "BadLots": ["index", "what"], "BadSensor": ["what"],
    "BadWorld": ["what", "sensor"], "NoSensor": ["sensor"], "BadOutcomes": [], "BadText": ["row", "what"],
    "Rising": ["ray"], "BadBase": [], "CountFull": ["tried"], "ManyMessages": ["greatest"], "Barred": ["bar"],
    "LastMode": [], "NoOutcome": ["word", "outcome"], "LastOutcome": ["word"], "NoLot": ["lot"],
    "TooNear": ["tried"], "BadProgram": ["who", "what"], "NoEntry": ["what"], "BadLate": ["late"],
    "BadStart": ["mode"], "BadTick": ["what"], "BadRun": ["tick", "what"], "Unheard": ["outcomes"],
    "BadPoint": [], "NoBar": ["what"], "BadBound": ["bound"], "TooLong": ["ticks"], "BadSplits": ["place"],
    "TooLarge": [], "NotQuiet": ["state"], "NotLink": ["what"], "NoLeast": [], "TooWide": ["late"],
    "NoFit": ["fault"], "NotBelow": ["least"], "TooFar": ["ticks"], "BadKeeping": ["what", "index"],
    "NoGroup": [], "NotClosed": ["key"], "NotDone": ["most"], "BadGroup": [], "BadPrices": ["sensor"],
    "BadMany": ["many"], "BadLiars": [], "BadDeed": ["what"], "NotNow": [], "NoPlan": [], "NoDeed": [],
}


class ErrorsTest(HeldTest):
    def test_held_error_stands_under_value_error(self):
        self.assertEqual(errors.HeldError.__bases__, (ValueError,))

    def test_each_stands_directly_under_held_error(self):
        for name in ATTRIBUTES:
            self.assertEqual(getattr(errors, name).__bases__, (errors.HeldError,), name)

    def test_there_are_no_others(self):
        classes = [name for name, thing in vars(errors).items() if isinstance(thing, type)]
        self.assertEqual(sorted(classes), sorted(list(ATTRIBUTES) + ["HeldError"]))

    def test_each_keeps_its_attributes_in_order(self):
        for name, attributes in ATTRIBUTES.items():
            values = [[name, place] for place in range(len(attributes))]
            error = getattr(errors, name)(*values)
            self.assertEqual(error.__dict__, dict(zip(attributes, values)), name)
            for attribute, value in zip(attributes, values):
                self.assertIs(getattr(error, attribute), value)

    def test_each_can_be_created_by_the_names(self):
        for name, attributes in ATTRIBUTES.items():
            error = getattr(errors, name)(**{attribute: attribute for attribute in attributes})
            self.assertEqual(error.__dict__, {attribute: attribute for attribute in attributes})

    def test_each_needs_all_its_attributes(self):
        for name, attributes in ATTRIBUTES.items():
            if attributes:
                self.assertRaises(TypeError, getattr(errors, name), *attributes[1:])
