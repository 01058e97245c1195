"""What the program refuses with."""


class ReelError(ValueError):
    pass


class NotNow(ReelError):
    pass
