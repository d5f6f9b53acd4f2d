package residual

import (
	"slices"

	"ropewalk/api"
	"ropewalk/rewrite"
	"ropewalk/system"
	"ropewalk/term"
)

// checkTerm refuses what is no closed term of a system.
func checkTerm(y *system.System, t api.Term) error {
	// Each term has a root: so it is refused for itself alone, or for the system.
	_, _, err := rewrite.At(y, t, 0)
	return err
}

// checkPlaces refuses the first of some numbers that is no place of a term.
func checkPlaces(t api.Term, l []int) error {
	for n, p := range l {
		if p < 0 || p >= len(t) {
			return &api.Fault{Code: api.ErrResidualPlace, At: n}
		}
	}
	return nil
}

// checkApart refuses the first of some places that lies in one ahead of it, or in which one lies.
func checkApart(y *system.System, t api.Term, l []int) error {
	s := y.Sig()
	taken := make([]bool, len(t))
	for n, p := range l {
		end, _ := term.End(s, t, p)
		part := taken[p:end] // whatever has a place in common with a subterm lies in it, or holds all of it
		if slices.Contains(part, true) {
			return &api.Fault{Code: api.ErrResidualApart, At: n}
		}
		for i := range part {
			part[i] = true
		}
	}
	return nil
}
