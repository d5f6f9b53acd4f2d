package rewrite

import (
	"iter"
	"slices"

	"ropewalk/api"
	"ropewalk/match"
	"ropewalk/sig"
	"ropewalk/term"
)

// closed is a closed term of a system, and what of that system its redexes hang on.
type closed struct {
	sig   *sig.Sig
	rules []numbered
	term  api.Term
}

// numbered is a rule, and its number in the system.
type numbered struct {
	api.Rule
	number int
}

// first is the first of some things of which something holds; false: it holds of none.
func first[T any](l iter.Seq[T], holds func(T) bool) (T, bool) {
	for x := range l {
		if holds(x) {
			return x, true
		}
	}
	var none T
	return none, false
}

// ruleAt is the rule that fits at a place. Rules do not overlap: so the first one is the only one.
func (c *closed) ruleAt(at int) (numbered, bool) {
	return first(slices.Values(c.rules), func(x numbered) bool { return c.fits(x, at) })
}

func (c *closed) fits(x numbered, at int) bool {
	if !c.begins(x.Left, at) { // match goes through the whole term: this keeps it from most rules that do not fit
		return false
	}
	_, fits, _ := match.Match(c.sig, x.Left, c.term, at)
	return fits
}

// begins tells whether what a left side has ahead of its first variable stands at a place.
func (c *closed) begins(left api.Term, at int) bool {
	// As long as they are alike, both lack as many arguments: the term does not end first.
	for i, n := range left {
		if n < 0 {
			return true
		}
		if c.term[at+i] != n {
			return false
		}
	}
	return true
}

// redexes are those of the term, by rising places; each is looked for when it is asked for.
func (c *closed) redexes() iter.Seq[api.Redex] {
	return func(yield func(api.Redex) bool) {
		for at := range c.term {
			x, fits := c.ruleAt(at)
			if fits && !yield(api.Redex{Place: at, Rule: x.number}) {
				return
			}
		}
	}
}

// outer is the first redex of all: what lies in another one stands behind it.
func (c *closed) outer() (api.Redex, bool) {
	return first(c.redexes(), func(api.Redex) bool { return true })
}

// inner is the first redex in which no other one lies.
func (c *closed) inner() (api.Redex, bool) {
	l := slices.Collect(c.redexes())
	return first(slices.Values(l), func(x api.Redex) bool {
		end, _ := term.End(c.sig, c.term, x.Place)
		return !slices.ContainsFunc(l, func(other api.Redex) bool { return x.Place < other.Place && other.Place < end })
	})
}

// contracted is the term with a rule done that fits at a place; true: it would be too long.
func (c *closed) contracted(x numbered, at int) (api.Term, bool) {
	binds, _, _ := match.Match(c.sig, x.Left, c.term, at)
	part, e := match.Apply(c.sig, x.Right, binds)
	if e != api.OK { // the part alone is too long
		return nil, true
	}
	u, e := term.Put(c.sig, c.term, at, part)
	return u, e != api.OK
}
