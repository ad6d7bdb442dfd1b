"""A workshop, which keeps machines that are changed."""

from outpressed.alphabets import LETTERS, check_alphabet, check_same_alphabet, check_text, is_letter
from outpressed.builds import Build
from outpressed.buildmachines import machine_of_build
from outpressed.errors import BadLetter, BadName, BadStanding, NameTaken, NoName, NothingToRedo, NothingToUndo
from outpressed.kinds import is_number_below
from outpressed.leads import greatest_lead
from outpressed.machines import Machine
from outpressed.readbacks import comes_back
from outpressed.sameness import least_machine, same_writing

DIGITS = "0123456789"
LONGEST_NAME = 12


class Workshop:
    """Machines over one alphabet, each with a name.

    The machines by their names are never changed in place, but always replaced:
    so undo and redo only have to go back and forth between them.
    """

    def __init__(self, alphabet):
        check_alphabet(alphabet)
        self.alphabet = alphabet
        self._machines = {}
        self._names = ()
        self._earlier = []
        self._later = []

    def keep(self, name, machine):
        """Keep a machine."""
        self._check_new(name)
        check_same_alphabet(self.alphabet, machine.alphabet)
        self._replace(None, name, machine)

    def make(self, name, text):
        """Keep the machine of a build."""
        self._check_new(name)
        self._replace(None, name, machine_of_build(Build(self.alphabet, text)))

    def change(self, name, standing, letter, following, word):
        """Give one rule of a machine another next standing and another word."""
        machine = self.machine_of(name)
        if not is_number_below(standing, machine.standings):
            raise BadStanding(standing)
        if not is_letter(self.alphabet, letter):
            raise BadLetter(0)
        rules = [list(row) for row in machine.rules]
        rules[standing][self.alphabet.index(letter)] = (following, word)
        # All other rules are right, so BadRule can only be raised for this one.
        self._replace(name, name, Machine(self.alphabet, rules))

    def lead_on(self, name, text, other):
        """Keep a machine followed by that of a build under a new name."""
        machine = self.machine_of(name)
        self._check_new(other)
        self._replace(None, other, machine >> machine_of_build(Build("01", text)))

    def shorten(self, name):
        """Put the least machine in the place of a machine."""
        self._replace(name, name, least_machine(self.machine_of(name)))

    def rename(self, name, other):
        """Give a machine another name."""
        machine = self.machine_of(name)
        self._check_new(other)
        self._replace(name, other, machine)

    def drop(self, name):
        """Remove a machine."""
        self._replace(name, None, self.machine_of(name))

    def undo(self):
        """Take back the last deed."""
        if len(self._earlier) == 0:
            raise NothingToUndo()
        self._later.append(self._machines)
        self._show(self._earlier.pop())

    def redo(self):
        """Do again the deed that was taken back last."""
        if len(self._later) == 0:
            raise NothingToRedo()
        self._earlier.append(self._machines)
        self._show(self._later.pop())

    def machine_of(self, name):
        """The machine with this name."""
        if name not in self._machines:
            raise NoName(name)
        return self._machines[name]

    def is_sure(self, name):
        """Whether the texts of the machine come back."""
        return comes_back(self.machine_of(name)).holds

    def lead_between(self, name, other):
        """The greatest lead of the one machine over the other one, or None."""
        machine = self.machine_of(name)
        return greatest_lead(machine, self.machine_of(other)).lead

    def ranking(self, text):
        """The numbers of bits that the machines write for the text, with their names, in ascending order."""
        check_text(self.alphabet, text)
        return tuple(sorted([(len(machine(text)), name) for name, machine in self._machines.items()]))

    def alike(self, name):
        """The names of all machines that write the same as the machine."""
        machine = self.machine_of(name)
        return tuple([other for other in self._names if same_writing(machine, self._machines[other]) is None])

    def __contains__(self, name):
        return name in self._machines

    def __len__(self):
        return len(self._names)

    def __iter__(self):
        return iter(self._names)

    def _check_new(self, name):
        """Raise BadName if the string is not a name, NameTaken if there is a machine with this name."""
        if not is_name(name):
            raise BadName(name)
        if name in self._machines:
            raise NameTaken(name)

    def _replace(self, old, new, machine):
        """Do a deed: take away the old name, if any, and keep the machine under the new one, if any."""
        machines = {name: kept for name, kept in self._machines.items() if name != old}
        if new is not None:
            machines[new] = machine
        self._earlier.append(self._machines)
        self._later = []
        self._show(machines)

    def _show(self, machines):
        """Have these machines from now on."""
        self._machines = machines
        self._names = tuple(sorted(list(machines)))


def is_name(string):
    """Whether the string is a name: 1 to 12 letters and digits, the first one no digit."""
    if len(string) < 1 or len(string) > LONGEST_NAME:
        return False
    return string.strip(LETTERS) == "" and string[0] not in DIGITS
