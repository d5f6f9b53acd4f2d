package residual

import (
	"slices"

	"ropewalk/api"
	"ropewalk/system"
	"ropewalk/term"
)

// share is what stands for a variable of a rule where the rule is done: where it begins and ends in the old term, and where it begins in the new one.
type share struct {
	from, end int
	to        []int
}

// descendants tells what becomes of the places of a term t, where u comes of it by a rule that is done at one of them.
func descendants(y *system.System, t, u api.Term, at, rule int) func(p int) []int {
	l := shares(y, t, u, at, rule)
	end, _ := term.End(y.Sig(), t, at)
	return func(p int) []int {
		if p < at {
			return []int{p}
		}
		if p >= end {
			return []int{p + len(u) - len(t)}
		}
		var holder share
	search:
		for _, x := range l {
			switch {
			case p < x.from: // a symbol of the left side stands for it: what is left begins behind it
				break search
			case p < x.end:
				holder = x
				break search
			}
		}
		places := make([]int, len(holder.to))
		for i, to := range holder.to {
			places[i] = to + p - holder.from
		}
		return places
	}
}

// shares are those of the variables of a rule's left side, from the left: where the rule's paths lead, from the contracted place on.
func shares(y *system.System, t, u api.Term, at, rule int) []share {
	s := y.Sig()
	x, _ := y.Rules().At(rule)
	above, _ := term.Path(s, t, at)
	lead := func(whole, side api.Term, place int) int {
		path, _ := term.Path(s, side, place)
		to, _ := term.Place(s, whole, slices.Concat(above, path)...)
		return to
	}
	var l []share
	for place, n := range x.Left {
		if n >= 0 {
			continue
		}
		one := share{from: lead(t, x.Left, place)}
		one.end, _ = term.End(s, t, one.from)
		for place, m := range x.Right {
			if m == n {
				one.to = append(one.to, lead(u, x.Right, place))
			}
		}
		l = append(l, one)
	}
	return l
}

// followed is what becomes of some places: rising, each once. A place that stands in the list many times is followed once.
func followed(l []int, become func(p int) []int) []int {
	var all []int
	for _, p := range rising(l) {
		all = append(all, become(p)...)
	}
	return rising(all)
}

// rising are some numbers by their size, each once, in new memory.
func rising(l []int) []int { return slices.Compact(slices.Sorted(slices.Values(l))) }
