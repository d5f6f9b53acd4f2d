package trace

import (
	"errors"

	"ropewalk/api"
	"ropewalk/residual"
	"ropewalk/system"
)

// replay is a term on which entries are done, and the label of each of its places. Places of one label are what was one node: the same stands there, with the same labels.
type replay struct {
	y       *system.System
	rules   []api.Rule
	arities []int // by symbols
	term    api.Term
	ends    []int // by places: what is behind the subterm there
	labels  []int // by places
	next    int   // the first label that no place has borne
}

// begun is a replay on a term, each place of which bears a label of its own.
func begun(y *system.System, t api.Term) (*replay, error) {
	u, err := residual.Together(y, t, nil) // this contracts nothing, but it refuses what is no closed term
	if err != nil {
		return nil, err
	}
	r := &replay{y: y, next: len(u)}
	for _, x := range y.Rules().All() {
		r.rules = append(r.rules, x)
	}
	for _, x := range y.Sig().All() {
		r.arities = append(r.arities, x.Arity)
	}
	for place := range u {
		r.labels = append(r.labels, place)
	}
	r.take(u)
	return r, nil
}

// take puts another term in the place of the one that there is.
func (r *replay) take(t api.Term) {
	r.term, r.ends = t, make([]int, len(t))
	for at := len(t) - 1; at >= 0; at-- {
		end := at + 1
		for range r.arities[t[at]] {
			end = r.ends[end]
		}
		r.ends[at] = end
	}
}

// do does an entry, the one of the number n.
func (r *replay) do(n int, f api.Fired) error {
	refused := &api.Fault{Code: api.ErrTraceReplay, At: n}
	_, _, err := residual.Through(r.y, r.term, []api.Move{{Path: f.Path, Rule: f.Rule}}, nil)
	one := refusal(err)
	if one.Code == api.ErrRewritePlace {
		return refused
	}
	at := r.place(f.Path)
	u, err := residual.Together(r.y, r.term, r.bearers(r.labels[at]))
	all := refusal(err)
	if one.Code == api.ErrRewriteRedex && all.Code != api.ErrRewriteRedex { // a rule fits, but another one
		return refused
	}
	if all.Code != api.OK {
		refused.Why = all
		return refused
	}
	r.relabel(at, r.rules[f.Rule])
	r.take(u)
	return nil
}

// refusal is the Fault that residual answers; one without a number, if it answers none.
func refusal(err error) *api.Fault {
	f := &api.Fault{}
	errors.As(err, &f)
	return f
}

// place is where a path leads that leads somewhere.
func (r *replay) place(path []int) int {
	at := 0
	for _, n := range path {
		at++
		for range n {
			at = r.ends[at]
		}
	}
	return at
}

// bearers are the places of a label, rising.
func (r *replay) bearers(label int) []int {
	var l []int
	for place, x := range r.labels {
		if x == label {
			l = append(l, place)
		}
	}
	return l
}

// relabel gives the new term's places their labels, ahead of taking it: a rule is done at a place, and at all that bear its label.
func (r *replay) relabel(at int, x api.Rule) {
	label, part := r.labels[at], r.part(at, x)
	var l []int
	for place := 0; place < len(r.labels); {
		if r.labels[place] == label {
			l = append(l, part...)
			place = r.ends[place]
			continue
		}
		l = append(l, r.labels[place])
		place++
	}
	r.labels = l
}

// part are the labels of what a rule makes of what stands at a place.
func (r *replay) part(at int, x api.Rule) []int {
	stands := map[int][]int{}
	for _, n := range x.Left {
		end := at + 1
		if n < 0 {
			end = r.ends[at]
			stands[n] = r.labels[at:end]
		}
		at = end
	}
	var l []int
	for _, n := range x.Right {
		if n < 0 {
			l = append(l, stands[n]...)
			continue
		}
		l = append(l, r.next)
		r.next++
	}
	return l
}
