package code

import (
	"slices"

	"ropewalk/api"
	"ropewalk/rules"
	"ropewalk/sig"
	"ropewalk/term"
)

// table is the code that was laid so far, and its paths. What is laid next stands behind it, so its indexes are right at once.
type table struct {
	ins   []api.Ins
	paths [][]int
}

// lay puts the code of a case tree's node behind what is there.
func (t *table) lay(c api.Case) {
	switch c.Kind {
	case api.Leaf:
		t.put(api.Ins{Op: api.OpRule, A: c.Rule})
	case api.Branch:
		t.branch(c)
	default:
		t.put(api.Ins{Op: api.OpStuck})
	}
}

func (t *table) branch(c api.Case) {
	t.put(api.Ins{Op: api.OpLook, A: len(t.paths)})
	t.paths = append(t.paths, slices.Clone(c.Path))
	first := len(t.ins)
	for _, k := range c.Kids {
		t.put(api.Ins{Op: api.OpCase, A: k.Symbol})
	}
	t.put(api.Ins{Op: api.OpStuck})
	for i, k := range c.Kids {
		// Only now it is known where the kid's code begins: all of the kids ahead of it is laid.
		t.ins[first+i].B = len(t.ins)
		t.lay(k.Case)
	}
}

func (t *table) put(i api.Ins) { t.ins = append(t.ins, i) }

// rightsOf are the parts of the rules' right sides, by the rules' numbers.
func rightsOf(s *sig.Sig, r *rules.Store) [][]api.Part {
	var l [][]api.Part
	for _, x := range r.All() {
		parts := make([]api.Part, len(x.Right))
		for i, n := range x.Right {
			parts[i] = partOf(s, x.Left, n)
		}
		l = append(l, parts)
	}
	return l
}

// partOf is the part of a number of a right side: of a variable it tells where the left side has it.
func partOf(s *sig.Sig, left api.Term, n int) api.Part {
	if n >= 0 {
		return api.Part{Symbol: n}
	}
	// A store takes no rule whose left side lacks it: so there is a path.
	path, _ := term.Path(s, left, slices.Index(left, n))
	return api.Part{Symbol: -1, Path: path}
}
