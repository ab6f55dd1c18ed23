"""Rounds that gain: where the best record of an item is made of records of the item itself."""

from hitclocks.records import NO_RECORD


def find_rounds(search):
    """Takes the rounds in the records that are the best ones so far."""
    seen = {}
    for row in list(search.rows.values()):
        for end in list(row.runs):
            if row.base + end not in seen:
                walk_records(search, row.base + end, seen)


def walk_records(search, item, seen):
    """Looks for rounds among the parts of an item, and their parts, along the path that is walked."""
    records = search.records
    path = [link_of(search, item)]
    spots = {item: 0}
    seen[item] = True
    while path:
        here, left, right, place = path.pop()
        if place == 1:
            del spots[here]
            continue
        path.append((here, left, right, place + 1))
        part = left if place == -1 else right
        if part == NO_RECORD:
            continue
        inner = records.subjects[part]
        if inner in spots:
            take_new_round(search, path[spots[inner]:])
        elif inner not in seen:
            seen[inner] = True
            spots[inner] = len(path)
            path.append(link_of(search, inner))


def link_of(search, item):
    """The link of an item by its best record so far, none of its parts having been looked at."""
    record = search.row_of(item).runs[item % search.many]
    return (item, search.records.lefts[record], search.records.rights[record], -1)


def take_new_round(search, links):
    """Takes a round unless an item of it is endless already."""
    for item, _, _, _ in links:
        if search.is_endless(item):
            return
    search.take_round(links)
