"""Rules, which pick the days that stay wanted (points 50 to 54)."""

from keepsakes.errors import NoRule


class Rule:
    def picks(self, days):
        return []


class LastFew(Rule):
    def __init__(self, many):
        if many < 0:
            raise NoRule(many)
        self.many = many

    def picks(self, days):
        return last_of(days, self.many)


class OneOfEach(Rule):
    def __init__(self, step, many=None):
        if step < 1:
            raise NoRule(step)
        if many is not None and many < 0:
            raise NoRule(many)
        self.step = step
        self.many = many

    def picks(self, days):
        firsts = []
        for day in days:
            if len(firsts) == 0 or day // self.step != firsts[-1] // self.step:
                firsts.append(day)
        return firsts if self.many is None else last_of(firsts, self.many)


class Apart(Rule):
    def __init__(self, gap):
        if gap < 1:
            raise NoRule(gap)
        self.gap = gap

    def picks(self, days):
        picked = []
        for day in days:
            if len(picked) == 0 or day - picked[-1] >= self.gap:
                picked.append(day)
        return picked


class Sealed(Rule):
    def __init__(self, days):
        self.sealed_days = dict([(day, True) for day in days])

    def picks(self, days):
        return [day for day in days if day in self.sealed_days]


class AnyOf(Rule):
    def __init__(self, rules):
        self.rules = tuple(rules)

    def picks(self, days):
        picked = {}
        for rule in self.rules:
            for day in rule.picks(days):
                picked[day] = True
        return [day for day in days if day in picked]


def last_of(days, many):
    # A slice by -many would tell all days where many is 0.
    return days[max(0, len(days) - many):]
