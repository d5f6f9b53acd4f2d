package rules

import (
	"slices"

	"ropewalk/api"
	"ropewalk/term"
	"ropewalk/unify"
)

// candidate is the rule of the number n in a list that would come behind a store's own.
type candidate struct {
	store *Store
	list  []api.Rule
	n     int
}

// checks are what a candidate must meet, in the order in which a list is held against them: each answers OK or a Fault, and may rely on what those ahead of it have found right in the whole list.
func checks() []func(candidate) error {
	return []func(candidate) error{
		candidate.many,
		candidate.term,
		candidate.side,
		candidate.root,
		candidate.linear,
		candidate.below,
		candidate.free,
		candidate.overlap,
	}
}

func (c candidate) rule() api.Rule { return c.list[c.n] }

// unless is OK where something holds, else a Fault of the candidate.
func (c candidate) unless(holds bool, code api.Errno) error {
	if holds {
		return api.OK
	}
	return c.fault(code, nil)
}

func (c candidate) fault(code api.Errno, why error) error {
	return &api.Fault{Code: code, At: c.n, Why: why}
}

// many asks the same of each candidate: it is the first one that is refused.
func (c candidate) many() error {
	return c.unless(len(c.store.list)+len(c.list) <= api.MaxRules, api.ErrRulesMany)
}

func (c candidate) term() error {
	for _, t := range []api.Term{c.rule().Left, c.rule().Right} {
		if e := term.Check(c.store.sig, t); e != api.OK {
			return c.fault(api.ErrRulesTerm, e)
		}
	}
	return api.OK
}

func (c candidate) side() error {
	longest := max(len(c.rule().Left), len(c.rule().Right))
	return c.unless(longest <= api.MaxSide, api.ErrRulesSide)
}

func (c candidate) root() error {
	return c.unless(c.isDefined(c.rule().Left[0]), api.ErrRulesRoot)
}

func (c candidate) linear() error {
	stand := 0
	for _, n := range c.rule().Left {
		if n < 0 {
			stand++
		}
	}
	unlike := len(term.Variables(c.rule().Left))
	return c.unless(stand == unlike, api.ErrRulesLinear)
}

func (c candidate) below() error {
	return c.unless(!slices.ContainsFunc(c.rule().Left[1:], c.isDefined), api.ErrRulesBelow)
}

func (c candidate) free() error {
	isFree := func(n int) bool { return n < 0 && !slices.Contains(c.rule().Left, n) }
	return c.unless(!slices.ContainsFunc(c.rule().Right, isFree), api.ErrRulesFree)
}

func (c candidate) overlap() error {
	for number, ahead := range slices.Concat(c.store.list, c.list[:c.n]) {
		clash, e := unify.Clash(c.store.sig, ahead.Left, c.rule().Left)
		if !clash && e == api.OK {
			return c.fault(api.ErrRulesOverlap, &api.Fault{Code: api.ErrRulesWith, At: number})
		}
	}
	return api.OK
}

// isDefined tells whether a number of a term is a defined symbol. (Of a variable there is no symbol: it is not.)
func (c candidate) isDefined(n int) bool {
	x, _ := c.store.sig.At(n)
	return x.Defined
}
