"""A desk that keeps things and notes claims by commands."""
from fewcorners.answers import answer_to, changes_text
from fewcorners.basics import copied, is_list
from fewcorners.boards import Board, check_names, claim_of_label, thing_of
from fewcorners.claims import contrary, is_paper_of
from fewcorners.commands import is_deed, parsed
from fewcorners.deeds import board_behind
from fewcorners.errors import (
    BodyError, CommandFailed, InvalidCommand, InvalidLines, InvalidPaper, LimitError, MissingError, NothingToRedo,
    NothingToUndo, StateError, TooMany, UnknownLabel, UnknownName,
)

MOST_NAMES = 12
MOST_LABELS = 12
MOST_DEEDS = 300


class Memory:
    """All that a desk holds at one time; it never changes.

    Papers are kept by label as tuples of the words of the claim, the word of
    the claim or of its contrary for which the paper is one, and the paper;
    deeds as tuples of the line and the boards ahead of it and behind it.
    """

    def __init__(self, board, papers, done, undone):
        self.board = board
        self.papers = papers
        self.done = done
        self.undone = undone


def memory_behind(memory, deed):
    """What a desk holds behind a deed."""
    board = board_behind(memory.board, deed)
    if len(board.things) > MOST_NAMES:
        raise TooMany("names", MOST_NAMES)
    if len(board.claims) > MOST_LABELS:
        raise TooMany("labels", MOST_LABELS)
    if len(memory.done) == MOST_DEEDS:
        raise TooMany("deeds", MOST_DEEDS)
    return Memory(board, memory.papers, [*memory.done, (deed, memory.board, board)], [])


def memory_behind_undo(memory):
    """What a desk holds once its last deed is taken back."""
    if len(memory.done) == 0:
        raise NothingToUndo()
    _, ahead, _ = memory.done[-1]
    return Memory(ahead, memory.papers, memory.done[:-1], [*memory.undone, memory.done[-1]])


def memory_behind_redo(memory):
    """What a desk holds once the last deed that was taken back is done again."""
    if len(memory.undone) == 0:
        raise NothingToRedo()
    _, _, behind = memory.undone[-1]
    return Memory(behind, memory.papers, [*memory.done, memory.undone[-1]], memory.undone[:-1])


def side_of(claim, paper):
    """The word of the claim or of its contrary, whichever the value is a paper of; None if of neither."""
    for told in (claim, contrary(claim)):
        if is_paper_of(told, paper):
            return told[0]
    return None


class Desk:
    """Things under names, claims under labels, papers beside them; deeds can be taken back."""

    def __init__(self):
        self._memory = Memory(Board({}, {}, {}), {}, [], [])

    @property
    def names(self):
        return sorted(self._memory.board.things)

    @property
    def labels(self):
        return sorted(self._memory.board.claims)

    def __len__(self):
        return len(self._memory.done)

    def __contains__(self, name):
        return isinstance(name, str) and name in self._memory.board.things

    def __getitem__(self, name):
        if name not in self:
            raise UnknownName(name)
        return thing_of(self._memory.board.things, name)

    def __iter__(self):
        raise TypeError("a desk is not iterated over")

    def claim_of(self, label):
        """The claim of the label with what is kept now; None while its state is gone."""
        self._check_label(label)
        return claim_of_label(self._memory.board, label)

    def do(self, command):
        """The answer to the command."""
        told = parsed(command)
        if told is None:
            raise InvalidCommand(command)
        word, shape, parts = told
        board = self._memory.board
        check_names(board, shape, parts)
        if word == "undo":
            self._memory = memory_behind_undo(self._memory)
            return self._memory.undone[-1][0]
        if word == "redo":
            self._memory = memory_behind_redo(self._memory)
            return self._memory.done[-1][0]
        if not is_deed(command):
            return answer_to(board, word, parts)
        self._memory = memory_behind(self._memory, command)
        return changes_text(board, self._memory.board)

    def __call__(self, command):
        return self.do(command)

    def do_all(self, *commands):
        """The list of the answers; none of the commands has an effect if one fails."""
        ahead = self._memory
        answers = []
        for at, command in enumerate(commands):
            try:
                answers.append(self.do(command))
            except (BodyError, MissingError, StateError, LimitError) as error:
                self._memory = ahead
                raise CommandFailed(at) from error
        return answers

    def attempt(self, *commands):
        """The list of the answers; none of the commands has an effect."""
        desk = self.copy()
        return desk.do_all(*commands)

    def attach(self, label, paper):
        """A paper of the label's claim, or of its contrary, is kept with the label."""
        claim = self.claim_of(label)
        side = None if claim is None else side_of(claim, paper)
        if side is None:
            raise InvalidPaper(paper)
        memory = self._memory
        kept = (memory.board.claims[label], side, copied(paper))
        self._memory = Memory(memory.board, {**memory.papers, label: kept}, memory.done, memory.undone)

    def fits(self, label):
        """Whether a paper is kept with the label that was attached to the same words and is one still."""
        claim = self.claim_of(label)
        if claim is None or label not in self._memory.papers:
            return False
        text, side, paper = self._memory.papers[label]
        return text == self._memory.board.claims[label] and is_paper_of((side, *claim[1:]), paper)

    def lines(self):
        """The list of the lines of the deeds that are not taken back."""
        return [line for line, _, _ in self._memory.done]

    def copy(self):
        """A desk that goes on by itself, with all that this one holds."""
        desk = Desk()
        desk._memory = self._memory
        return desk

    @classmethod
    def again(cls, lines):
        """A desk that has done the deeds of these lines."""
        if not is_list(lines):
            raise InvalidLines(None)
        for at, line in enumerate(lines):
            if not is_deed(line):
                raise InvalidLines(at)
        desk = cls()
        desk.do_all(*lines)
        return desk

    def _check_label(self, label):
        """UnknownLabel unless a claim is noted under it."""
        if not isinstance(label, str) or label not in self._memory.board.claims:
            raise UnknownLabel(label)


class Trial:
    """A block within which a desk may be changed: behind it all of the desk is as it was ahead."""

    def __init__(self, desk):
        self._desk = desk
        self._ahead = None

    def __enter__(self):
        self._ahead = self._desk._memory
        return self._desk

    def __exit__(self, kind, value, trace):
        desk = self._desk
        desk._memory = self._ahead


def tried(desk, action):
    """What the action returns for the desk, called within a Trial of it."""
    with Trial(desk) as held:
        return action(held)
