"""One judge: whether CLAIMS stand, PAPERS that show that they do not, and REASONS that show that they do."""

from nosplit.demands import cuts_in
from nosplit.errors import Unfit
from nosplit.facts import LEVELS, are_at_least, is_set_of_rows, rank_of
from nosplit.fillings import bad_company, can_be_lone, is_bad_company, is_program
from nosplit.histories import is_mix_of, is_needs_ring, is_tale, mix_of, needs_ring
from nosplit.jobs import is_jobs, levels_of
from nosplit.levels import is_enough, is_giving, least_levels
from nosplit.log import breach, is_breach, is_deeds, is_pages
from nosplit.mixes import is_mix
from nosplit.orders import edges, is_ring, is_straight, least_ring
from nosplit.ranges import bad_range_mix, is_bad_range_mix, is_range_jobs
from nosplit.sessions import is_ahead, is_let_short, is_short_mix, is_straight_by, keeps_ahead, short_mix_of, split_by
from nosplit.smooth import is_stumble, stumble
from nosplit.splits import is_split, is_why, reached, split_at, split_in, split_mix
from nosplit.store import barred_by, first_barred, is_let
from nosplit.values import are_numbers_below, are_tuples_of, is_number_below, is_tuple_of, tupled


def _has_jobs(told, many):
    """Whether so many stand behind the word of a CLAIM, JOBS ahead."""
    return len(told) == many and is_jobs(told[0])


def _of_jobs(told):
    return _has_jobs(told, 1)


def _of_head(told):
    return _has_jobs(told, 2) and is_number_below(told[1], len(told[0]))


def _of_levels(told):
    return _has_jobs(told, 2) and is_giving(told[0], told[1])


def _of_mix(told):
    return _has_jobs(told, 2) and is_mix(told[0], told[1])


def _of_tale(told):
    return _has_jobs(told, 2) and is_tale(told[0], told[1]) and "watched" not in levels_of(told[0])


def _of_ahead(told):
    return _has_jobs(told, 2) and is_ahead(told[0], told[1])


def _of_programs(told):
    if len(told) != 2 or not isinstance(told[0], tuple) or told[0] == () or not is_set_of_rows(told[1]):
        return False
    return all([is_program(program) for program in told[0]]) and can_be_lone(told[0], told[1])


def _of_ranges(told):
    return len(told) == 1 and is_range_jobs(told[0])


def _of_log(told):
    return len(told) == 2 and is_pages(told[0]) and is_deeds(told[0], told[1])


FITS = {"safe": _of_jobs, "no head": _of_head, "not lower": _of_levels, "let": _of_mix, "straight": _of_mix,
        "comes": _of_tale, "never": _of_tale, "safe by": _of_ahead, "many": _of_programs, "ranges": _of_ranges,
        "smooth": _of_jobs, "lasting": _of_log}


def is_claim(thing):
    if not isinstance(thing, tuple) or thing == () or not isinstance(thing[0], str) or thing[0] not in FITS:
        return False
    fits = FITS[thing[0]]
    return fits(thing[1:])


def _against_safe(told):
    jobs = told[0]
    split = split_in(jobs)
    return None if split is None else split_mix(jobs, split)


def _is_against_safe(told, thing):
    jobs = told[0]
    return is_mix(jobs, thing) and is_let(jobs, thing) and not is_straight(jobs, thing)


def _against_no_head(told):
    jobs, head = told
    splits = [split_at(jobs, one, place) for one, place in cuts_in(jobs, "read") if one == head]
    found = [split for split in splits if split is not None]
    return found[0] if found else None


def _is_against_no_head(told, thing):
    return is_split(told[0], thing) and thing[0] == told[1]


def _against_not_lower(told):
    jobs, levels = told
    least = least_levels(jobs)
    return None if are_at_least(least, levels) else least


def _is_against_not_lower(told, thing):
    jobs, levels = told
    return is_giving(jobs, thing) and not are_at_least(thing, levels) and is_enough(jobs, thing)


def _against_let(told):
    jobs, mix = told
    barred = first_barred(jobs, mix)
    return None if barred is None else (barred[0], barred_by(jobs, mix, barred[0])[0])


def _is_against_let(told, thing):
    jobs, mix = told
    if not is_tuple_of(thing, 2) or not is_number_below(thing[0], len(mix)):
        return False
    return is_number_below(thing[1], len(jobs)) and thing[1] in barred_by(jobs, mix, thing[0])


def _against_straight(told):
    return least_ring(edges(told[0], told[1]))


def _is_against_straight(told, thing):
    return is_ring(edges(told[0], told[1]), thing)


def _against_comes(told):
    return needs_ring(told[0], told[1])


def _is_against_comes(told, thing):
    return is_needs_ring(told[0], told[1], thing)


def _against_never(told):
    return mix_of(told[0], told[1])


def _is_against_never(told, thing):
    return is_mix_of(told[0], told[1], thing)


def _against_safe_by(told):
    jobs, ahead = told
    split = split_by(jobs, ahead)
    return None if split is None else short_mix_of(jobs, ahead, split)


def _is_against_safe_by(told, thing):
    jobs, ahead = told
    if not is_short_mix(jobs, thing) or not is_let_short(jobs, thing):
        return False
    return keeps_ahead(jobs, ahead, thing) and not is_straight_by(jobs, ahead, thing)


def _against_many(told):
    return bad_company(told[0], told[1])


def _is_against_many(told, thing):
    return is_bad_company(told[0], told[1], thing)


def _against_ranges(told):
    return bad_range_mix(told[0])


def _is_against_ranges(told, thing):
    return is_bad_range_mix(told[0], thing)


def _against_smooth(told):
    return stumble(told[0])


def _is_against_smooth(told, thing):
    return is_stumble(told[0], thing)


def _against_lasting(told):
    return breach(told[0], told[1])


def _is_against_lasting(told, thing):
    return is_breach(told[0], told[1], thing)


AGAINST = {"safe": _against_safe, "no head": _against_no_head, "not lower": _against_not_lower, "let": _against_let,
           "straight": _against_straight, "comes": _against_comes, "never": _against_never,
           "safe by": _against_safe_by, "many": _against_many, "ranges": _against_ranges, "smooth": _against_smooth,
           "lasting": _against_lasting}
IS_AGAINST = {"safe": _is_against_safe, "no head": _is_against_no_head, "not lower": _is_against_not_lower,
              "let": _is_against_let, "straight": _is_against_straight, "comes": _is_against_comes,
              "never": _is_against_never, "safe by": _is_against_safe_by, "many": _is_against_many,
              "ranges": _is_against_ranges, "smooth": _is_against_smooth, "lasting": _is_against_lasting}


def _claim_of(claim):
    """The CLAIM with tuples throughout; refused if it is none."""
    claim = tupled(claim)
    if not is_claim(claim):
        raise Unfit()
    return claim


def _paper(claim):
    find = AGAINST[claim[0]]
    return find(claim[1:])


def stands(claim):
    return _paper(_claim_of(claim)) is None


def paper_against(claim):
    return _paper(_claim_of(claim))


def is_paper_against(claim, thing):
    claim = _claim_of(claim)
    fits = IS_AGAINST[claim[0]]
    return fits(claim[1:], thing)


def first_fallen(claims):
    claims = [_claim_of(claim) for claim in claims]
    for place in range(len(claims)):
        paper = _paper(claims[place])
        if paper is not None:
            return place, paper
    return None


def _safe_jobs(claim):
    """The JOBS of a CLAIM that they are safe; refused if it is none, or of another word."""
    claim = _claim_of(claim)
    if claim[0] != "safe":
        raise Unfit()
    return claim[1]


def reason_for(claim):
    jobs = _safe_jobs(claim)
    if split_in(jobs) is not None:
        raise Unfit()
    return tuple([(head, place, reached(jobs, head, place)) for head, place in cuts_in(jobs, "read")])


def _is_shut(jobs, cut, thing):
    """Whether thing is a triple of this head, this place and a REACH of them that is shut."""
    head, place = cut
    if not are_numbers_below(thing[:1], len(jobs)) or not are_numbers_below(thing[1:2], len(jobs[head][1])):
        return False
    return thing[:2] == cut and is_why(jobs, head, place, thing[2])


def is_reason_for(claim, thing):
    jobs = _safe_jobs(claim)
    cuts = cuts_in(jobs, "read")
    if not are_tuples_of(thing, 3) or len(thing) != len(cuts):
        return False
    return all([_is_shut(jobs, cuts[at], thing[at]) for at in range(len(cuts))])


def levels_that_mend(claim):
    jobs = _safe_jobs(claim)
    own, least = levels_of(jobs), least_levels(jobs)
    # Just those are enough that are at least the least one.
    return [tuple([LEVELS[max(rank_of(own[place]), rank_of(least[place]))] for place in range(len(jobs))])]
