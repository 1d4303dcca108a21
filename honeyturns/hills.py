"""Hills and their days: a HILL is (year, needs, most), a DAY of its year (drops, open)."""


def is_number(thing, least):
    """Tell whether the thing is a number, the least one or above."""
    # Python counts True and False among the integers; here they are no numbers.
    return isinstance(thing, int) and not isinstance(thing, bool) and thing >= least


def is_tuple_of(thing, many):
    """Tell whether the thing is a tuple of so many parts."""
    return isinstance(thing, tuple) and len(thing) == many


def is_day(thing):
    """Tell whether the thing is a DAY."""
    return is_tuple_of(thing, 2) and is_number(thing[0], 0) and isinstance(thing[1], bool)


def is_year(thing):
    """Tell whether the thing is a tuple of DAYs with a drop in all and an open one."""
    if not isinstance(thing, tuple) or not all([is_day(day) for day in thing]):
        return False
    return any([day[0] > 0 for day in thing]) and any([day[1] for day in thing])


def is_ring(thing):
    """Tell whether the thing is a tuple of what each ant needs, one ant at least."""
    return isinstance(thing, tuple) and len(thing) > 0 and all([is_number(need, 1) for need in thing])


def is_hill(thing):
    """Tell whether the thing is a HILL."""
    return is_tuple_of(thing, 3) and is_year(thing[0]) and is_ring(thing[1]) and is_number(thing[2], 0)


def year_drops(hill):
    """How many drops a whole year gives."""
    return sum([day[0] for day in hill[0]])


def ring_needs(hill):
    """How much all ants need together."""
    return sum(hill[1])


def given_by(hill, day):
    """How many drops all days up to that one gave, that one too."""
    year = hill[0]
    years, last = divmod(day, len(year))
    return years * year_drops(hill) + sum([part[0] for part in year[:last + 1]])


def open_from(hill, day):
    """The first open day from that one on."""
    year = hill[0]
    while not year[day % len(year)][1]:
        day += 1
    return day


def day_of(hill, drops):
    """The first open day by whose evening so many drops, 1 at least, were given."""
    year = hill[0]
    # Counted from the drop before: the last drop of a year is given in that year still.
    years, before = divmod(drops - 1, year_drops(hill))
    missing = before + 1
    place = 0
    while missing > year[place][0]:
        missing -= year[place][0]
        place += 1
    return open_from(hill, years * len(year) + place)
