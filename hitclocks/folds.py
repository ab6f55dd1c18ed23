"""Trees told from their leaves on, however deep they are."""


def folded(root, parts, told):
    """What is told of a node by what was told of its parts: parts(node) lists these, told(node, answers) tells."""
    waiting = [(root, None)]
    answers = []
    while waiting:
        node, many = waiting.pop()
        if many is None:
            inner = parts(node)
            waiting.append((node, len(inner)))
            for part in reversed(inner):
                waiting.append((part, None))
        else:
            first = len(answers) - many
            own = answers[first:]
            del answers[first:]
            answers.append(told(node, own))
    return answers[0]
