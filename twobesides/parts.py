"""Companies told by numbers of parts: of all with two people besides, or of the whole where there are fewer."""

from twobesides.ties import all_companies, pair_of, pairs_besides, part_for


def part_people(named, people):
    """Return how many people there are in the parts that tell a company of so many."""
    return min(people, named + 2)


def besides_told(named, people):
    """Return the list of the tuples of the people besides in each of the parts that tell a company of so many."""
    if people < named + 2:
        return [tuple(range(named, people))]
    return pairs_besides(named, people)


def part_numbers(named, company):
    """Return the tuple of the numbers, among all companies with as many people, of the parts that tell a company."""
    parts = all_companies(part_people(named, company[0]))
    numbers = {part: number for number, part in enumerate(parts)}
    return tuple(numbers[part_for(named, company, besides)] for besides in besides_told(named, company[0]))


def company_of_parts(named, people, numbers):
    """Return the company of so many people that parts with these numbers tell; if they disagree, all are heard."""
    parts = all_companies(part_people(named, people))
    known = {}
    for besides, number in zip(besides_told(named, people), numbers):
        heard = tuple(range(named)) + besides
        for one, other in parts[number][1]:
            known[pair_of(heard[one], heard[other])] = True
    return people, tuple(sorted(known))
