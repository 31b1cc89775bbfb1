"""What stands ahead: rows of pieces lined up, or a shortest round."""

from sortlore.errors import Round


def told(rows):
    """All pieces of the rows, each once, in the turn in which they are told first."""
    seen = {}
    for row in rows:
        for piece in row:
            seen[piece] = True
    return list(seen)


def followers(rows):
    """For each piece, as told, the pieces that a row puts right behind it."""
    after = {}
    for piece in told(rows):
        after[piece] = []
    for row in rows:
        for one, other in zip(row, row[1:]):
            after[one].append(other)
    return after


def way_back(came, start, last):
    """The pieces from the start on to the last, by what each was come from."""
    pieces = [last]
    while pieces[-1] != start:
        pieces.append(came[pieces[-1]])
    pieces.reverse()
    return pieces


def round_from(after, start, most):
    """A shortest round among those that have this piece, or [] where none has at most so many pieces."""
    came = {}
    newest = [start]
    length = 0
    # Nearer pieces are looked at first, so the first way back is a shortest one.
    while newest and length < most:
        further = []
        for piece in newest:
            for other in after[piece]:
                if other == start:
                    return way_back(came, start, piece)
                if other in after and other not in came:
                    came[other] = piece
                    further.append(other)
        newest = further
        length += 1
    return []


def count_ahead(after):
    """For each piece, how many times it is said that one stands ahead of it."""
    ahead = {}
    for piece in after:
        ahead[piece] = 0
    for piece in after:
        for other in after[piece]:
            ahead[other] += 1
    return ahead


def take_out(after, ahead, piece):
    """Takes a piece out, and with it all that have then nothing ahead of them, as these are in no round."""
    leaving = [piece]
    while leaving:
        behind = after.pop(leaving.pop())
        for other in behind:
            ahead[other] -= 1
            if ahead[other] == 0 and other in after:
                leaving.append(other)


def shortest_round(rows):
    """A shortest round of all, or [] where there is none."""
    after = followers(rows)
    ahead = count_ahead(after)
    best = []
    most = len(after)
    for piece in told(rows):
        if piece in after:
            found = round_from(after, piece, most)
            if found:
                best = found
                most = len(found) - 1
            # All rounds that have it are seen.
            take_out(after, ahead, piece)
    return best


def lined_up(rows):
    """All pieces of the rows in one list that keeps to every row, or Round."""
    after = followers(rows)
    ahead = count_ahead(after)
    pieces = list(after)
    numbers = dict([(piece, number) for number, piece in enumerate(pieces)])
    # Of each row at most one piece is free at a time, so these are few.
    free = [numbers[piece] for piece in pieces if ahead[piece] == 0]
    line = []
    while free:
        number = min(free)
        free.remove(number)
        line.append(pieces[number])
        for other in after[pieces[number]]:
            ahead[other] -= 1
            if ahead[other] == 0:
                free.append(numbers[other])
    if len(line) < len(pieces):
        raise Round(shortest_round(rows))
    return line
