package system

import (
	"errors"

	"ropewalk/api"
	"ropewalk/rules"
	"ropewalk/sig"
	"ropewalk/tree"
)

// ground is what a system stands on: rules, over a signature. Its store is never added to: what comes is laid into another one, which takes its place when all of it is taken. So nothing of what is refused is left behind. (The store is no embedded part itself, for then everybody could add to it, past the case trees.)
type ground struct {
	store *rules.Store // nil: neither symbols nor rules have come
}

// laid is the store, which nobody may add to.
func (g ground) laid() *rules.Store {
	if g.store == nil { // made here, not by New, so that a System{} of somebody's own is as good
		return rules.New(sig.New())
	}
	return g.store
}

// withSymbols is a ground that has symbols behind its own.
func (g ground) withSymbols(l []api.Symbol) (ground, error) {
	s := g.laid().Sig()
	for n, x := range l {
		if _, e := s.Add(x); e != api.OK {
			return ground{}, &api.Fault{Code: api.ErrSystemSymbols, At: n, Why: e}
		}
	}
	store := rules.New(s)
	// No symbol more makes a rule wrong: so those that were taken are taken again.
	store.Add(g.list())
	return ground{store}, nil
}

// withRules is a ground that has rules behind its own.
func (g ground) withRules(l []api.Rule) (ground, error) {
	store := g.laid().Copy()
	if err := store.Add(l); err != nil {
		return ground{}, wrapped(api.ErrSystemRules, err)
	}
	if err := forked(store); err != nil {
		return ground{}, wrapped(api.ErrSystemTree, err)
	}
	return ground{store}, nil
}

func (g ground) list() []api.Rule {
	var l []api.Rule
	for _, x := range g.laid().All() {
		l = append(l, x)
	}
	return l
}

// forked is tree's Fault of the first symbol for which rules leave no case tree; nil, if there is none.
func forked(store *rules.Store) error {
	for symbol := range store.Sig().All() {
		// A constructor is refused, too, but for another reason, which is no fault of the rules.
		if _, err := tree.Build(store, symbol); errors.Is(err, api.ErrTreeNone) {
			return err
		}
	}
	return nil
}

// wrapped is a refusal of the system's that comes of a part's, at the same place.
func wrapped(code api.Errno, why error) error {
	f := &api.Fault{Code: code, Why: why}
	var part *api.Fault
	if errors.As(why, &part) {
		f.At = part.At
	}
	return f
}
