package term

import (
	"ropewalk/api"
	"ropewalk/sig"
)

// checkNumber tells what is wrong with one number of a term.
func checkNumber(s *sig.Sig, n int) api.Errno {
	if n >= s.Len() {
		return api.ErrTermSymbol
	}
	if n < 0 && !isVariable(n) {
		return api.ErrTermVariable
	}
	return api.OK
}

// checkPlace tells what is wrong with a term, or else with a place of it.
func checkPlace(s *sig.Sig, t api.Term, at int) api.Errno {
	if e := Check(s, t); e != api.OK {
		return e
	}
	if at < 0 || at >= len(t) {
		return api.ErrTermPlace
	}
	return api.OK
}

func isVariable(n int) bool { return -api.MaxVariables <= n && n <= -1 }

// arity is how many arguments stand behind a number of a term. Of a variable At tells no symbol, whose arity is 0.
func arity(s *sig.Sig, n int) int {
	x, _ := s.At(n)
	return x.Arity
}

// end is the place behind the subterm that begins at a place; -1, if the list ends within it.
func end(s *sig.Sig, t api.Term, at int) int {
	lacking := 1
	for ; at < len(t); at++ {
		lacking += arity(s, t[at]) - 1
		if lacking == 0 {
			return at + 1
		}
	}
	return -1
}

// join lays parts one behind the other, in new memory.
func join(parts ...api.Term) api.Term {
	size := 0
	for _, p := range parts {
		size += len(p)
	}
	t := make(api.Term, size)
	at := 0
	for _, p := range parts {
		at += copy(t[at:], p)
	}
	return t
}

// trail is where a walk through a term, from the left, stands: the symbols above, from the root on.
type trail []turn

// turn is a symbol above: in which of its arguments the walk is, and how many it has.
type turn struct {
	number, arity int
}

// pass goes on to the next place, past a symbol or variable of so many arguments.
func (w *trail) pass(arity int) {
	if arity > 0 {
		*w = append(*w, turn{0, arity})
		return
	}
	for top := len(*w) - 1; top >= 0; top-- {
		above := &(*w)[top]
		above.number++
		if above.number < above.arity {
			return
		}
		*w = (*w)[:top]
	}
}

// path is the path from the root to where the walk stands.
func (w trail) path() []int {
	l := make([]int, len(w))
	for i, above := range w {
		l[i] = above.number
	}
	return l
}
