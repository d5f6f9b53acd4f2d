package match

import (
	"slices"

	"ropewalk/api"
	"ropewalk/sig"
)

// walk tells what a pattern's variables stand for in a term, and whether the term is an instance of it at all.
func walk(s *sig.Sig, pattern, t api.Term) (table, bool) {
	var stands table
	at := 0
	// As long as the pattern's symbols are the term's, both lack as many arguments: the term does not end first.
	pass := func(n int) bool {
		from := at
		if n >= 0 {
			at++
			return t[from] == n
		}
		at = behind(s, t, from)
		part := t[from:at]
		if stands[-n] == nil {
			stands[-n] = part
		}
		return slices.Equal(stands[-n], part)
	}
	for _, n := range pattern {
		if !pass(n) {
			return table{}, false
		}
	}
	return stands, true
}

// behind is the place behind the subterm at a place. (term.End would look at the whole term for each variable anew.)
func behind(s *sig.Sig, t api.Term, at int) int {
	for lacking := 1; lacking > 0; at++ {
		x, _ := s.At(t[at]) // of a variable no symbol, whose arity is 0
		lacking += x.Arity - 1
	}
	return at
}
