"""What the program refuses, one error class for each refusal."""


class LampError(ValueError):
    pass


class BadHouse(LampError):
    pass


class BadLamps(LampError):
    pass


class BadPress(LampError):
    pass


class NoSwitch(LampError):
    pass


class BadText(LampError):
    pass
