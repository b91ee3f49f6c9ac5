"""What is answered to commands, told of a board."""
from fewcorners.balances import least_balanced
from fewcorners.boards import kind_of, thing_of
from fewcorners.faces import holds_face
from fewcorners.likeness import own_maps
from fewcorners.lists import edges, face_numbers, faces, facets
from fewcorners.numerals import rows_text, words_text
from fewcorners.steps import excess, size, told_sums
from fewcorners.twins import twins
from fewcorners.wheels import peaks
from fewcorners.words import word, word_of


def or_dash(text):
    """The text, `-` for the empty one."""
    return text if text != "" else "-"


def lot_text(lot):
    """The digits of a lot in one word, `-` for the empty one."""
    return or_dash("".join([str(place) for place in lot]))


def lots_text(lots):
    """The lots with blanks between, `none` for none."""
    return words_text([lot_text(lot) for lot in lots]) if len(lots) > 0 else "none"


def states_text(board, labels):
    """The labels with their states; `-` for none."""
    return or_dash(", ".join([f"{label} {board.states[label]}" for label in labels]))


def changes_text(ahead, behind):
    """The labels whose states are others than on the board ahead, with their states now."""
    labels = [label for label in sorted(behind.states) if ahead.states.get(label) != behind.states[label]]
    return states_text(behind, labels)


def tell_state(board, label):
    return board.states[label]


def tell_states(board):
    return states_text(board, sorted(board.states))


def tell_claimed(board, label):
    return board.claims[label]


def tell_names(board):
    return or_dash(words_text(sorted(board.things)))


def tell_show(board, name):
    thing = thing_of(board.things, name)
    return rows_text(thing.points() if kind_of(board.things, name) == "body" else thing)


def tell_size(board, name):
    kind = kind_of(board.things, name)
    thing = thing_of(board.things, name)
    if kind == "wheel":
        return words_text([len(thing), len(thing[0])])
    points = thing.points() if kind == "body" else thing
    return words_text([len(points), size(points), excess(points)])


def tell_sums(board, name):
    return or_dash(rows_text(told_sums(thing_of(board.things, name))))


def tell_word(board, name):
    thing = thing_of(board.things, name)
    many, numbers = word_of(thing) if kind_of(board.things, name) == "body" else word(thing)
    return f"{many}; {or_dash(words_text(numbers))}"


def tell_numbers(board, name):
    return words_text(face_numbers(thing_of(board.things, name)))


def tell_maps(board, name):
    return str(own_maps(thing_of(board.things, name)))


def tell_facets(board, name):
    return lots_text(facets(thing_of(board.things, name)))


def tell_edges(board, name):
    return lots_text(edges(thing_of(board.things, name)))


def tell_twins(board, name):
    return lots_text(twins(thing_of(board.things, name)))


def tell_faces(board, name, many):
    return lots_text(faces(thing_of(board.things, name), many))


def tell_holds(board, name, lot):
    return lot_text(holds_face(thing_of(board.things, name), lot))


def tell_peaks(board, name):
    return lot_text(peaks(thing_of(board.things, name)))


def tell_least(board, name):
    return lots_text(least_balanced(thing_of(board.things, name)))


def tell_same(board, name, other):
    return "yes" if thing_of(board.things, name) == thing_of(board.things, other) else "no"


TELLERS = {
    "state": tell_state, "states": tell_states, "claimed": tell_claimed, "names": tell_names, "show": tell_show,
    "size": tell_size, "sums": tell_sums, "word": tell_word, "numbers": tell_numbers, "maps": tell_maps,
    "facets": tell_facets, "edges": tell_edges, "twins": tell_twins, "faces": tell_faces, "holds": tell_holds,
    "peaks": tell_peaks, "least": tell_least, "same": tell_same,
}


def answer_to(board, first, parts):
    """The answer to a command that is no deed and takes none back, by its first word."""
    teller = TELLERS[first]
    return teller(board, *parts)
