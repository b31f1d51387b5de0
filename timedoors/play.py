"""A live play: presses that are changed deed by deed, and what is lit by them at each moment."""

from timedoors.checks import check_level, check_tick
from timedoors.deeds import copy_of_deed, presses_behind
from timedoors.errors import InvalidDeed, NothingToRedo, NothingToUndo
from timedoors.levels import copy_of_level
from timedoors.lines import recording
from timedoors.masks import lights_of
from timedoors.spread import light_masks


class Play:
    """A level with the deeds done, each with the presses behind it, and those taken back, the last one last.

    These lists of presses are never changed, so plays can share them.
    """

    def __init__(self, level):
        check_level(level)
        self.own_level = copy_of_level(level)
        self.done = []
        self.undone = []

    def __eq__(self, other):
        return isinstance(other, Play) and self.own_level == other.own_level and self.done == other.done

    def level(self):
        return copy_of_level(self.own_level)

    def presses(self):
        return [list(lights) for lights in presses_of(self)]

    def told(self):
        return recording(self.own_level, presses_of(self))

    def do(self, deed):
        behind = checked_behind(self, deed)
        self.done.append((copy_of_deed(deed), behind))
        self.undone = []

    def undo(self):
        if len(self.done) == 0:
            raise NothingToUndo()
        self.undone.append(self.done.pop())

    def redo(self):
        if len(self.undone) == 0:
            raise NothingToRedo()
        self.done.append(self.undone.pop())

    def log(self):
        return [copy_of_deed(deed) for deed, _ in self.done]

    def copy(self):
        other = Play(self.own_level)
        other.done = list(self.done)
        other.undone = list(self.undone)
        return other

    def shown(self):
        return [lights_of(mask) for mask in light_masks(self.own_level, presses_of(self))]

    def shown_at(self, tick):
        check_tick(len(presses_of(self)), tick)
        return lights_of(light_masks(self.own_level, presses_of(self))[tick])

    def seen_now(self):
        standing = []
        for deed, behind in self.done:
            if deed[0] == "tick":
                standing.append((len(behind) - 1, behind))
            elif deed[0] == "cut":
                standing = [(tick, presses) for tick, presses in standing if tick < deed[1]]
        return [lights_of(light_masks(self.own_level, presses)[tick]) for tick, presses in standing]

    def otherwise(self, deed):
        behind = light_masks(self.own_level, checked_behind(self, deed))
        now = light_masks(self.own_level, presses_of(self))
        more = [0 for _ in range(abs(len(behind) - len(now)))]
        # A tick that there is only now, or only behind the deed, is dark the other time.
        unlike = [one ^ other for one, other in zip(now + more, behind + more)]
        return [(tick, room) for tick, mask in enumerate(unlike) for room in lights_of(mask)]


def presses_of(play):
    """The presses behind the last deed; they are not handed out themselves."""
    return play.done[-1][1] if len(play.done) > 0 else []


def checked_behind(play, deed):
    """The presses behind a deed that can be done now."""
    behind = presses_behind(play.own_level, presses_of(play), deed)
    if behind is None:
        raise InvalidDeed(deed)
    return behind


def is_deed(play, value):
    if not isinstance(play, Play):
        raise InvalidDeed(play)
    return presses_behind(play.own_level, presses_of(play), value) is not None
