// Package sig is layer 1: symbols and their arities: see shared/doc/01-sig.md.
package sig

import (
	"iter"
	"maps"
	"slices"

	"ropewalk/api"
)

// Sig is a signature: symbols, numbered from 0 on in the order in which they came.
type Sig struct {
	symbols []api.Symbol
	numbers map[string]int // by names
}

// New is one without symbols.
func New() *Sig { return &Sig{} }

// Add puts a symbol behind the others: its number.
func (s *Sig) Add(x api.Symbol) (int, api.Errno) {
	if e := s.refusal(x); e != api.OK {
		return 0, e
	}
	if s.numbers == nil { // made here, not by New, so that a Sig{} of somebody's own is as good
		s.numbers = make(map[string]int)
	}
	n := len(s.symbols)
	s.symbols = append(s.symbols, x)
	s.numbers[x.Name] = n
	return n, api.OK
}

// refusal is why a symbol can't be added, or OK. Where several errors apply, the first case is the one that is answered.
func (s *Sig) refusal(x api.Symbol) api.Errno {
	switch {
	case s == nil:
		return api.ErrArg
	case !IsName(x.Name):
		return api.ErrSigName
	case x.Arity < 0 || x.Arity > api.MaxArity:
		return api.ErrSigArity
	case s.has(x.Name):
		return api.ErrSigTwice
	case s.Len() >= api.MaxSymbols:
		return api.ErrSigMany
	}
	return api.OK
}

// has tells whether a symbol is called so.
func (s *Sig) has(name string) bool {
	_, ok := s.numbers[name]
	return ok
}

// Len is how many there are.
func (s *Sig) Len() int {
	if s == nil {
		return 0
	}
	return len(s.symbols)
}

// At is the symbol of a number.
func (s *Sig) At(n int) (api.Symbol, api.Errno) {
	if s == nil {
		return api.Symbol{}, api.ErrArg
	}
	if n < 0 || n >= len(s.symbols) {
		return api.Symbol{}, api.ErrSigNone
	}
	return s.symbols[n], api.OK
}

// Find is the number of a name.
func (s *Sig) Find(name string) (int, api.Errno) {
	if s == nil {
		return 0, api.ErrArg
	}
	n, ok := s.numbers[name]
	if !ok {
		return 0, api.ErrSigNone
	}
	return n, api.OK
}

// All goes through all symbols, by their numbers.
func (s *Sig) All() iter.Seq2[int, api.Symbol] {
	return func(yield func(int, api.Symbol) bool) {
		if s == nil { // a range over a nil function would panic; over this one it ends at once
			return
		}
		// The list is taken when a range begins: what is added on the way stands behind its end.
		for n, x := range s.symbols {
			if !yield(n, x) {
				return
			}
		}
	}
}

// Of tells the numbers of the defined symbols, or of the constructors.
func (s *Sig) Of(defined bool) []int {
	var l []int
	for n, x := range s.All() {
		if x.Defined == defined {
			l = append(l, n)
		}
	}
	return l
}

// Copy is another one with the same symbols.
func (s *Sig) Copy() *Sig {
	if s == nil {
		return nil
	}
	return &Sig{symbols: slices.Clone(s.symbols), numbers: maps.Clone(s.numbers)}
}
