"""Drawings that grow tie for tie: webs drawn on a ball, with signs, by numbers that only seem random."""

from random import Random

from crosswebs.webs.shades import Shade, drawing_of


def faces_of(rounds):
    """The faces, each as the list of the tie ends behind which its corners lie."""
    behind = {end: told[(at + 1) % len(told)] for told in rounds for at, end in enumerate(told)}
    left, faces = sorted(behind), []
    while left:
        face = [left[0]]
        while True:
            tie, end = behind[face[-1]]
            if (tie, 1 - end) == face[0]:
                break
            face.append((tie, 1 - end))
        faces.append(face)
        left = [end for end in left if end not in face]
    return faces


def put_behind(rounds, place, end):
    """A tie end more, behind another one in its round."""
    for told in rounds:
        if place in told:
            told.insert(told.index(place) + 1, end)
            return


def grown_rounds(chance, ties, leaves):
    """Rounds of so many ties: each new one leads to a new place, or across a face."""
    rounds = [[(0, 0)], [(0, 1)]]
    for tie in range(1, ties):
        face = chance.choice(faces_of(rounds))
        place, other = chance.choice(face), chance.choice(face)
        if chance.random() < leaves:
            put_behind(rounds, place, (tie, 0))
            rounds.append([(tie, 1)])
        else:
            put_behind(rounds, place, (tie, 0))
            put_behind(rounds, (tie, 0) if place == other else other, (tie, 1))
    told = [tuple(ends[ends.index(min(ends)):] + ends[:ends.index(min(ends))]) for ends in rounds]
    return tuple(sorted(told))


def grown(seed, ties, leaves=0.4):
    """A drawing in one piece with so many crossings."""
    chance = Random(seed)
    rounds = grown_rounds(chance, ties, leaves)
    return drawing_of(Shade(rounds, tuple(chance.choice((1, -1)) for _ in range(ties))))


GROWN = [grown(seed, 3 + seed % 7) for seed in range(35)]
LARGE = [grown(seed, 9, 0.35) for seed in range(100, 112)]
