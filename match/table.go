package match

import (
	"slices"

	"ropewalk/api"
	"ropewalk/sig"
	"ropewalk/term"
)

// table has for each variable the term that stands for it, or nil: no term is empty.
type table [api.MaxVariables + 1]api.Term

// tableOf is the table of some binds, or what is wrong with the first of them that may not be.
func tableOf(s *sig.Sig, l []api.Bind) (table, api.Errno) {
	var stands table
	for _, b := range l {
		if b.Variable < 1 || b.Variable > api.MaxVariables || stands[b.Variable] != nil {
			return table{}, api.ErrMatchBind
		}
		if e := term.Check(s, b.Term); e != api.OK {
			return table{}, e
		}
		stands[b.Variable] = b.Term
	}
	return stands, api.OK
}

// binds are those of the table, in memory of their own.
func (stands *table) binds() []api.Bind {
	var l []api.Bind
	for n, part := range stands {
		if part != nil {
			l = append(l, api.Bind{Variable: n, Term: slices.Clone(part)})
		}
	}
	return l
}

// part is what stands for a number of a term; nil, if that number stays.
func (stands *table) part(n int) api.Term {
	if n >= 0 {
		return nil
	}
	return stands[-n]
}

// size is how many numbers a term will have.
func (stands *table) size(t api.Term) int {
	size := 0
	for _, n := range t {
		size += max(1, len(stands.part(n)))
	}
	return size
}
