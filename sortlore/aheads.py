"""What stands ahead: rows of pieces lined up, or a shortest round."""

from sortlore.errors import Round


def told(rows):
    """All pieces of the rows, each once, in the turn in which they are told first."""
    seen = {}
    for row in rows:
        for piece in row:
            seen[piece] = True
    return list(seen)


def followers(rows):
    """For each piece, as told, the pieces that a row puts right behind it."""
    after = {}
    for piece in told(rows):
        after[piece] = []
    for row in rows:
        for one, other in zip(row, row[1:]):
            after[one].append(other)
    return after


def way_back(came, start, last):
    """The pieces from the start on to the last, by what each was come from."""
    pieces = [last]
    while pieces[-1] != start:
        pieces.append(came[pieces[-1]])
    pieces.reverse()
    return pieces


def round_from(after, start):
    """A shortest round among those that have this piece, or [] where there is none."""
    came = {}
    queue = [start]
    at = 0
    # Nearer pieces are looked at first, so the first way back is a shortest one.
    while at < len(queue):
        piece = queue[at]
        at += 1
        for other in after[piece]:
            if other == start:
                return way_back(came, start, piece)
            if other not in came:
                came[other] = piece
                queue.append(other)
    return []


def shortest_round(rows):
    """A shortest round of all, or [] where there is none."""
    after = followers(rows)
    best = []
    for piece in after:
        found = round_from(after, piece)
        if found and (not best or len(found) < len(best)):
            best = found
    return best


def count_ahead(after):
    """For each piece, how many times it is said that one stands ahead of it."""
    ahead = {}
    for piece in after:
        ahead[piece] = 0
    for piece in after:
        for other in after[piece]:
            ahead[other] += 1
    return ahead


def first_free(waiting, ahead):
    """The first waiting piece with nothing ahead of it, or None."""
    for piece in waiting:
        if ahead[piece] == 0:
            return piece
    return None


def lined_up(rows):
    """All pieces of the rows in one list that keeps to every row, or Round."""
    after = followers(rows)
    ahead = count_ahead(after)
    waiting = list(after)
    line = []
    while waiting:
        piece = first_free(waiting, ahead)
        if piece is None:
            raise Round(shortest_round(rows))
        waiting.remove(piece)
        line.append(piece)
        for other in after[piece]:
            ahead[other] -= 1
    return line
