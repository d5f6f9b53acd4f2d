package code

import (
	"slices"

	"ropewalk/api"
	"ropewalk/sig"
	"ropewalk/term"
)

// Plain is a term as code looks at it: its nodes are its places. Without any, it is a view of what is no closed term.
type Plain struct {
	heads api.Term
	args  [][]int // for each place the places of its arguments
}

// Over is the view of a term.
func Over(s *sig.Sig, t api.Term) Plain {
	if term.Check(s, t) != api.OK || slices.ContainsFunc(t, isVariable) {
		return Plain{}
	}
	return Plain{heads: slices.Clone(t), args: argsOf(s, t)}
}

// Head is the symbol at a place; nothing is known of it.
func (p Plain) Head(at int) (int, bool) {
	if !isIndex(at, len(p.heads)) {
		return -1, false
	}
	return p.heads[at], false
}

// Arg is the place of an argument.
func (p Plain) Arg(at, n int) int {
	if !isIndex(at, len(p.args)) || !isIndex(n, len(p.args[at])) {
		return -1
	}
	return p.args[at][n]
}

// argsOf are for each place of a closed term the places of its arguments. It goes from the last place to the first: so the ends of those behind are known, and nothing is gone through twice.
func argsOf(s *sig.Sig, t api.Term) [][]int {
	args, ends := make([][]int, len(t)), make([]int, len(t))
	for at := len(t) - 1; at >= 0; at-- {
		x, _ := s.At(t[at])
		ends[at] = at + 1
		for range x.Arity {
			args[at] = append(args[at], ends[at])
			ends[at] = ends[ends[at]]
		}
	}
	return args
}

func isVariable(n int) bool { return n < 0 }
