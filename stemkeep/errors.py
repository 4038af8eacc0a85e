"""The refusals: one class for each kind of them, all of them straight under StemError."""


class StemError(ValueError):
    """Any refusal."""


class NoRef(StemError):
    """What should be a reference is none."""


class NoWorth(StemError):
    """What should be a worth is none."""


class Within(StemError):
    """The two references of a merge meet."""


class TooDeep(StemError):
    """A reference would have more keys than one may have."""


class NoHead(StemError):
    """A short reference has no last one whose head it could mean."""


class NoJob(StemError):
    """What should be a job is none."""


class Waiting(StemError):
    """The job asks for a lock while it waits for another one."""

    def __init__(self, job):
        self.job = job


class NoLock(StemError):
    """The job does not hold the reference, or does not wait."""


class Held(StemError):
    """Another job touches what the job asks for."""

    def __init__(self, job, ref):
        self.job = job
        self.ref = ref


class NoDealing(StemError):
    """The job has begun no dealing that could be ended."""


class Erring(StemError):
    """An expression can't be told; the word says why."""

    def __init__(self, word):
        self.word = word


class NoProgram(StemError):
    """What should be a program is none."""


class NoLabel(StemError):
    """The program has no such label with so many params."""

    def __init__(self, label):
        self.label = label


class TooLong(StemError):
    """As many turns as were let be given did not end all jobs."""

    def __init__(self, most):
        self.most = most


class NoText(StemError):
    """What is handed in is not what could be written, or read back."""
