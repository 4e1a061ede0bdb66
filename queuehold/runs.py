"""Deeds: what a queue is to do, as tuples, and what is told of them."""

from queuehold.errors import BadDeed, QueueError, Stopped

# How many things a deed has, its word among them.
SIZES_OF_DEEDS = {"put": 2, "all": 2, "take": 2, "done": 3, "back": 3, "wait": 2, "new": 2, "sweep": 1, "carry": 1}


def check_deed(deed):
    if not isinstance(deed, tuple) or len(deed) == 0:
        raise BadDeed("a deed is a tuple with a word first")
    word = deed[0]
    if not isinstance(word, str) or word not in SIZES_OF_DEEDS:
        raise BadDeed("no deed has this word")
    if len(deed) != SIZES_OF_DEEDS[word]:
        raise BadDeed("a deed of this word has another count of things")


def told_by(queue, deed):
    word = deed[0]
    if word == "put":
        return queue.put(deed[1])
    if word == "all":
        return queue.put_all(deed[1])
    if word == "take":
        return queue.take(deed[1])
    if word == "done":
        return queue.done(deed[1], deed[2])
    if word == "back":
        return queue.give_back(deed[1], deed[2])
    if word == "wait":
        return queue.wait(deed[1])
    if word == "new":
        return queue.revive(deed[1])
    if word == "sweep":
        return queue.sweep()
    return queue.carry()


def do(queue, deed):
    check_deed(deed)
    try:
        return told_by(queue, deed)
    except Stopped:
        return "stopped"
    except QueueError:
        return "refused"


def run(queue, deeds):
    if not isinstance(deeds, list):
        raise BadDeed("deeds are a list")
    # All are looked at ahead of the first, so that none is done where one is no deed.
    for deed in deeds:
        check_deed(deed)
    told = []
    for deed in deeds:
        answer = do(queue, deed)
        if answer == "stopped":
            return told
        told.append(answer)
    return told
