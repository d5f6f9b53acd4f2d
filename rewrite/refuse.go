package rewrite

import (
	"errors"

	"ropewalk/api"
	"ropewalk/system"
	"ropewalk/term"
)

// closedOf refuses what is no closed term of a system.
func closedOf(y *system.System, t api.Term) (*closed, error) {
	if y == nil {
		return nil, &api.Fault{Code: api.ErrArg}
	}
	s := y.Sig()
	if e := term.Check(s, t); e != api.OK {
		return nil, &api.Fault{Code: api.ErrRewriteTerm, Why: e}
	}
	if len(term.Variables(t)) > 0 {
		return nil, &api.Fault{Code: api.ErrRewriteTerm}
	}
	c := &closed{sig: s, term: t}
	for n, x := range y.Rules().All() {
		c.rules = append(c.rules, numbered{x, n})
	}
	return c, nil
}

// redexOf is the rule that fits at a place, and the term; it refuses a place at which none fits, too.
func redexOf(y *system.System, t api.Term, at int) (*closed, numbered, error) {
	c, err := closedOf(y, t)
	if err != nil {
		return nil, numbered{}, err
	}
	if at < 0 || at >= len(t) {
		return nil, numbered{}, &api.Fault{Code: api.ErrRewritePlace}
	}
	x, fits := c.ruleAt(at)
	if !fits {
		return nil, numbered{}, &api.Fault{Code: api.ErrRewriteRedex, At: at}
	}
	return c, x, nil
}

// codeOf is the number of a refusal; OK, if there is none.
func codeOf(err error) api.Errno {
	var f *api.Fault
	if !errors.As(err, &f) {
		return api.OK
	}
	return f.Code
}
