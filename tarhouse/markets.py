"""Which class takes over which file, and the prices that show that no other choice saves more."""


class Market:
    """Classes that take files; both are told by their least paths.

    The price of a class and that of a file together are at least what the class
    saves by the file, and just that if it has the file. A class without a file
    and a file without a class have the price 0. So all prices together are what
    the choice saves, and no other choice saves more.
    """

    def __init__(self, classes, files, savings):
        self.savings = savings
        self.class_prices = {}
        self.file_prices = {file: 0 for file in files}
        # The file of each class, and the class of each file, if they have one.
        self.chosen = {}
        self.takers = {}
        for taker in classes:
            self.class_prices[taker] = max([self.saving(taker, other) for other in files], default=0)
            self.serve(taker)

    def saving(self, taker, file):
        """Return what a class saves by a file, 0 if it may not take it over."""
        return max(0, self.savings.get((taker, file), 0))

    def slack(self, taker, file):
        """Return by how much the prices of a class and a file are more than the saving."""
        return self.class_prices[taker] + self.file_prices[file] - self.saving(taker, file)

    def total(self):
        """Return the sum of all prices, which is what the choice saves."""
        return sum(list(self.class_prices.values())) + sum(list(self.file_prices.values()))

    def serve(self, taker):
        """Let a class take a file, for which others may have to take another one, or none."""
        while True:
            wanted = self.wanted_by(taker)
            classes = [taker, *[self.takers[file] for file in wanted if file in self.takers]]
            free = [file for file in wanted if file not in self.takers]
            content = [other for other in classes if self.class_prices[other] == 0]
            if len(free) > 0:
                self.hand_over(free[0], wanted)
                return
            if len(content) > 0:
                self.leave(content[0], wanted)
                return
            self.shift_prices(classes, wanted)

    def wanted_by(self, taker):
        """Return the files that a class may take without loss, and those that others may take in place of them.

        Each file has the class that would take it.
        """
        wanted = {}
        classes = [taker]
        while len(classes) > 0:
            seeker = classes.pop()
            for file in self.file_prices:
                if file not in wanted and self.slack(seeker, file) == 0:
                    wanted[file] = seeker
                    if file in self.takers:
                        classes.append(self.takers[file])
        return wanted

    def hand_over(self, file, wanted):
        """Give a file to the class that would take it, the file of this one to the next, and so on."""
        while file is not None:
            taker = wanted[file]
            before = self.chosen.get(taker)
            self.chosen[taker] = file
            self.takers[file] = taker
            file = before

    def leave(self, taker, wanted):
        """Let a class have no file, as it loses nothing by that."""
        if taker in self.chosen:
            file = self.chosen[taker]
            del self.chosen[taker]
            self.hand_over(file, wanted)

    def shift_prices(self, classes, wanted):
        """Lower the prices of classes and raise those of the files that they want, until they want one more."""
        steps = [self.class_prices[taker] for taker in classes]
        for file in self.file_prices:
            if file not in wanted:
                steps += [self.slack(taker, file) for taker in classes]
        step = min(steps)
        for taker in classes:
            self.class_prices[taker] -= step
        for file in wanted:
            self.file_prices[file] += step
