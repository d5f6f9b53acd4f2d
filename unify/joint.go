package unify

import (
	"ropewalk/api"
	"ropewalk/sig"
)

// joint is two terms as one list. Its parts are its places, and its variables n as -n; parts that have become the same lead, each by the next one, to one of them, so that nothing is copied however often it stands somewhere.
type joint struct {
	list   api.Term
	ends   []int                       // for each place that behind the subterm there
	stands [2*api.MaxVariables + 1]int // for each variable the part for which it stands; itself, if it is free
	same   []int                       // for each place the part that is the same; itself, if none is known
	sizes  []int                       // for each place how many numbers its term has, once that was asked
}

// join lays one term behind the other; the variables of the second are numbered on by apart.
func join(s *sig.Sig, a, b api.Term, apart int) *joint {
	size := len(a) + len(b)
	j := &joint{list: make(api.Term, 0, size), ends: make([]int, size), same: make([]int, size), sizes: make([]int, size)}
	j.list = append(j.list, a...)
	for _, n := range b {
		if n < 0 {
			n -= apart
		}
		j.list = append(j.list, n)
	}
	for n := range j.stands {
		j.stands[n] = -n
	}
	for at := size - 1; at >= 0; at-- {
		j.same[at] = at
		if n := j.list[at]; n < 0 {
			j.same[at] = n
		}
		x, _ := s.At(j.list[at]) // of a variable no symbol, whose arity is 0
		j.ends[at] = at + 1
		for range x.Arity {
			j.ends[at] = j.ends[j.ends[at]]
		}
	}
	return j
}

// next is where it is kept to which part a part leads.
func (j *joint) next(part int) *int {
	if part < 0 {
		return &j.stands[-part]
	}
	return &j.same[part]
}

// leader is the part to which a part, and all that are the same, lead: a free variable, or the place of a symbol.
func (j *joint) leader(part int) int {
	for {
		next := j.next(part)
		if *next == part {
			return part
		}
		// Who asks next has half the way.
		*next = *j.next(*next)
		part = *next
	}
}

// run is some subterms, one behind the other, that must become the same as those from another place on.
type run struct {
	at, end, other int
}

// unite makes the subterms at two places the same, and all parts that must be so then; false, if two of these have unlike symbols. (It does not see that a variable would lie in itself.)
func (j *joint) unite(a, b int) bool {
	open := []run{{a, j.ends[a], b}}
runs:
	for len(open) > 0 {
		r := &open[len(open)-1]
		for r.at < r.end {
			p, q := j.leader(r.at), j.leader(r.other)
			r.at, r.other = j.ends[r.at], j.ends[r.other]
			switch {
			case p == q:
			case p < 0:
				j.stands[-p] = q
			case q < 0:
				j.stands[-q] = p
			case j.list[p] != j.list[q]:
				return false
			default:
				// The same from here on, ahead of their arguments: so no two places are gone through twice.
				j.same[p] = q
				open = append(open, run{p + 1, j.ends[p], q + 1})
				continue runs
			}
		}
		open = open[:len(open)-1]
	}
	return true
}
