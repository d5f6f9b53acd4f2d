package residual

import (
	"errors"
	"slices"

	"ropewalk/api"
	"ropewalk/rewrite"
	"ropewalk/system"
	"ropewalk/term"
)

// contracted is a term with the rules done that fit at some places, none of which lies in another one.
func contracted(y *system.System, t api.Term, l []int) (api.Term, error) {
	parts, err := instances(y, t, l)
	if err != nil {
		return nil, err
	}
	s := y.Sig()
	var u api.Term
	for at := 0; at < len(t); {
		if len(parts[at]) == 0 {
			u = append(u, t[at])
			at++
			continue
		}
		u = append(u, parts[at]...)
		at, _ = term.End(s, t, at)
	}
	if len(u) > api.MaxTerm {
		return nil, &api.Fault{Code: api.ErrRewriteLong}
	}
	return u, nil
}

// instances are what comes of the subterms at some places, by these. Each is contracted on its own: within the term, what comes of some of them may be too long where what comes of all is not.
func instances(y *system.System, t api.Term, l []int) ([]api.Term, error) {
	s := y.Sig()
	parts := make([]api.Term, len(t))
	var long error
	var sub, part api.Term
	for _, p := range l {
		last := sub
		sub, _ = term.Sub(s, t, p)
		if slices.Equal(sub, last) { // where a graph's node has many copies, to contract one of them is enough
			parts[p] = part
			continue
		}
		var err error
		part, _, err = rewrite.Contract(y, sub, 0)
		if errors.Is(err, api.ErrRewriteRedex) {
			return nil, &api.Fault{Code: api.ErrRewriteRedex, At: p}
		}
		if err != nil { // the part alone is too long; where no rule fits at a place behind it, that is told instead
			long = &api.Fault{Code: api.ErrRewriteLong}
		}
		parts[p] = part
	}
	return parts, long
}

// moved is a term with a move done, and what has come of some of its places; or why the move can't be done.
func moved(y *system.System, t api.Term, m api.Move, l []int) (api.Term, []int, api.Errno) {
	at, e := term.Place(y.Sig(), t, m.Path...)
	if e != api.OK {
		return nil, nil, api.ErrRewritePlace
	}
	// The rule is asked for ahead of the step: that another one fits is told first, however long the term would be.
	rule, fits, _ := rewrite.At(y, t, at)
	if !fits || rule != m.Rule {
		return nil, nil, api.ErrRewriteRedex
	}
	u, places, err := Step(y, t, at, l)
	if err != nil {
		return nil, nil, api.ErrRewriteLong
	}
	return u, places, api.OK
}
