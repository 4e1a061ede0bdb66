"""Settings and deeds chosen by chance, with a chance that is handed in, so that a run can be had again."""


def settings_for(chance):
    most = chance.choice([1, 7, 8, 15, 20, 30, 50, 80, 150, 2000])
    return (most, chance.choice([0, 1, 3, 10]), chance.choice([1, 2, 3, 9]))


def some_body(chance):
    if chance.random() < 0.05:
        return chance.choice([None, [1], (256,), (True,), (0,) * 61, "a"])
    return tuple(chance.randrange(256) for _ in range(chance.choice([0, 1, 1, 2, 3, 7])))


def some_hand(chance):
    return chance.choice(["a", "b", "ann", "zzzzzz", "a", "b", "ann", "zzzzzz", "A", None])


def held_one(chance, model):
    if model.held() and chance.random() < 0.9:
        number, hand = chance.choice(model.held())
        return (hand, number)
    return (some_hand(chance), chance.choice([0, 1, 2, 5, True, None, model.coming]))


def some_deed(chance, model):
    word = chance.choice(["put"] * 5 + ["all"] * 2 + ["take"] * 7 + ["done"] * 5 + ["back"] * 2
                         + ["wait", "new", "new", "sweep", "carry", "carry"])
    if word == "put":
        return ("put", some_body(chance))
    if word == "all":
        return ("all", tuple(some_body(chance) for _ in range(chance.choice([0, 1, 2, 2, 3, 4, 9, 10]))))
    if word == "take":
        return ("take", some_hand(chance))
    if word in ("done", "back"):
        return (word,) + held_one(chance, model)
    if word == "wait":
        return ("wait", chance.choice([0, 1, 1, 2, 5, 99, 100, None]))
    if word == "new":
        numbers = model.dead() if chance.random() < 0.9 else []
        return ("new", chance.choice(numbers or [0, 1, 2, True, None, model.coming]))
    return (word,)
