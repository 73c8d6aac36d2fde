"""Where moves lead points: all images of one, and all orbits."""


def reach(point, moves):
    """All images of POINT by rows of MOVES, rising."""
    met = {point: True}
    further = [point]
    while further:
        image = further.pop()
        for move in moves:
            if move[image] not in met:
                met[move[image]] = True
                further.append(move[image])
    return tuple(sorted(list(met)))


def all_reaches(points, moves):
    """All parts of POINTS that rows of MOVES lead to one another, by their least points."""
    met = {}
    found = []
    for point in range(points):
        if point not in met:
            orbit = reach(point, moves)
            found.append(orbit)
            met.update({each: True for each in orbit})
    return tuple(found)
