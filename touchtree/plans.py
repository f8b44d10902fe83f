"""Plans: scenes that are changed step by step, and go back and forth."""

from touchtree.errors import NoNumber
from touchtree.scenes import LEFT, MARKS, WIDTH, below, box_of, cut, marked, put_at, raised, with_box

# Where the parts of a step stand in its tuple: which it was, and the scene that it leads to.
WORD = 0
SCENE = 1


class Plan:
    """A scene, and the steps that it came by."""

    def __init__(self, scene):
        self.scene = scene
        # Scenes are never changed, so those to go back or forth to are kept whole.
        # Steps that can be taken back, with the scene ahead of each; the next one to take back is the last.
        self.done = []
        # Steps that can be done again, with the scene behind each; the next one to do again is the last.
        self.undone = []

    def now(self):
        return self.scene

    def step_to(self, word, scene):
        self.done.append((word, self.scene))
        self.undone = []
        self.scene = scene

    def put(self, box):
        self.step_to("put", with_box(self.scene, box))

    def take(self, name):
        """Told are the names that are taken away."""
        names = below(self.scene, name)
        self.step_to("take", cut(self.scene, name))
        return names

    def lift(self, name):
        self.step_to("lift", raised(self.scene, name))

    def mark(self, name, marks):
        """Told are the marks that it had."""
        box = box_of(self.scene, name)
        self.step_to("mark", marked(self.scene, name, marks))
        return box[MARKS]

    def lay(self, name, left, top):
        """Told are the left and top that it had."""
        box = box_of(self.scene, name)
        self.step_to("lay", put_at(self.scene, name, left, top))
        return box[LEFT:WIDTH]

    def back(self):
        """The last step is taken back; told is which it was."""
        if not self.done:
            raise NoNumber("there is no step to take back")
        step = self.done.pop()
        self.undone.append((step[WORD], self.scene))
        self.scene = step[SCENE]
        return step[WORD]

    def forth(self):
        """The step that was taken back last is done again; told is which it was."""
        if not self.undone:
            raise NoNumber("there is no step to do again")
        step = self.undone.pop()
        self.done.append((step[WORD], self.scene))
        self.scene = step[SCENE]
        return step[WORD]

    def sizes(self):
        """How many steps can be taken back, and how many done again."""
        return (len(self.done), len(self.undone))

    def twin(self):
        """Another plan that is as this one is now."""
        other = Plan(self.scene)
        other.done = list(self.done)
        other.undone = list(self.undone)
        return other
