package code_test

import (
	"math"
	"math/rand"
	"slices"
	"testing"

	"ropewalk/api"
	"ropewalk/code"
)

// odd is a node of any Kind that has all that a node may have.
func odd(kind int) api.Case {
	return api.Case{Kind: kind, Rule: 8, Path: []int{1}, Kids: []api.Kid{kid(z, leaf(1)), kid(s, branch([]int{4}))}}
}

// P9.2: each kind of node, alone and beneath others.
func TestFlat(t *testing.T) {
	for _, x := range []struct {
		c          api.Case
		ins, paths string
	}{
		{leaf(0), "rule 0", ""},
		{leaf(7), "rule 7", ""},
		{leaf(-3), "rule -3", ""},
		{fail(), "stuck", ""},
		// The chapter's example.
		{branch([]int{0}, kid(z, leaf(0)), kid(s, leaf(1))), "look 0; case 0 4; case 1 5; stuck; rule 0; rule 1", "0"},
		// A branch without kids, and by the empty path.
		{branch(nil), "look 0; stuck", "*"},
		{branch([]int{2, 0}), "look 0; stuck", "2.0"},
		{branch([]int{}, kid(z, fail())), "look 0; case 0 3; stuck; stuck", "*"},
		// One beneath the other: all beneath a kid ahead of the next one.
		{branch([]int{1}, kid(z, branch([]int{2}, kid(z, leaf(2)))), kid(s, branch([]int{2}, kid(z, leaf(3))))),
			"look 0; case 0 4; case 1 8; stuck; look 1; case 0 7; stuck; rule 2; look 2; case 0 11; stuck; rule 3", "1 2 2"},
		{branch([]int{0}, kid(z, branch([]int{1}, kid(a, branch([]int{2}, kid(p, leaf(5)))), kid(p, leaf(6)))), kid(s, branch([]int{3}))),
			"look 0; case 0 4; case 1 13; stuck; look 1; case 4 8; case 5 12; stuck; look 2; case 5 11; stuck; rule 5; rule 6; look 3; stuck", "0 1 2 3"},
		// The same path twice over is twice in the list.
		{branch([]int{0}, kid(s, branch([]int{0}, kid(s, leaf(1))))), "look 0; case 1 3; stuck; look 1; case 1 6; stuck; rule 1", "0 0"},
		// Kids in their order, whatever their symbols and paths are.
		{branch([]int{-1, 9}, kid(p, leaf(1)), kid(-7, fail()), kid(p, leaf(2)), kid(99, leaf(3))),
			"look 0; case 5 6; case -7 7; case 5 8; case 99 9; stuck; rule 1; stuck; rule 2; rule 3", "-1.9"},
		// Other Kinds; what hangs beneath a node that is no branch is nothing.
		{api.Case{}, "stuck", ""},
		{odd(0), "stuck", ""},
		{odd(-1), "stuck", ""},
		{odd(4), "stuck", ""},
		{odd(math.MaxInt), "stuck", ""},
		{odd(math.MinInt), "stuck", ""},
		{odd(api.Fail), "stuck", ""},
		{odd(api.Leaf), "rule 8", ""},
		{odd(api.Branch), "look 0; case 0 4; case 1 5; stuck; rule 1; look 1; stuck", "1 4"},
		{branch(nil, kid(z, odd(7)), kid(s, odd(api.Leaf)), kid(a, odd(api.Fail))), "look 0; case 0 5; case 1 6; case 4 7; stuck; stuck; rule 8; stuck", "*"},
	} {
		ins, paths := code.Flat(x.c)
		if shown(ins) != x.ins || shownPaths(paths) != x.paths {
			t.Errorf("%v: %s, %s; want %s", x.c, shown(ins), shownPaths(paths), x.ins)
		}
	}
}

// length is how many instructions the code of a node has.
func length(c api.Case) int {
	if c.Kind != api.Branch {
		return 1
	}
	n := 2 + len(c.Kids)
	for _, x := range c.Kids {
		n += length(x.Case)
	}
	return n
}

// branches are the paths of a node's branches, from the left, those above first.
func branches(c api.Case) [][]int {
	if c.Kind != api.Branch {
		return nil
	}
	l := [][]int{c.Path}
	for _, x := range c.Kids {
		l = append(l, branches(x.Case)...)
	}
	return l
}

// codeOf is the code of a node that begins at an index, with so many paths ahead of its own, word by word as the chapter has it: where each kid's begins is reckoned by lengths.
func codeOf(c api.Case, begin, paths int) []api.Ins {
	switch c.Kind {
	case api.Leaf:
		return []api.Ins{byRule(c.Rule)}
	case api.Branch:
	default:
		return []api.Ins{stuck()}
	}
	l := []api.Ins{look(paths)}
	var below []api.Ins
	next, nextPath := begin+2+len(c.Kids), paths+1
	for _, x := range c.Kids {
		l = append(l, inCase(x.Symbol, next))
		below = append(below, codeOf(x.Case, next, nextPath)...)
		next += length(x.Case)
		nextPath += len(branches(x.Case))
	}
	return append(append(l, stuck()), below...)
}

func samePaths(x, y [][]int) bool {
	return slices.EqualFunc(x, y, func(a, b []int) bool { return slices.Equal(a, b) })
}

// grownCase is a Case that a seed's numbers choose, of any shape.
func grownCase(r *rand.Rand, depth int) api.Case {
	if depth <= 1 || r.Intn(5) == 0 {
		c := odd(r.Intn(6) - 1)
		if c.Kind == api.Branch {
			c.Kids = nil
		}
		return c
	}
	c := api.Case{Kind: api.Branch, Rule: r.Intn(3)}
	for range r.Intn(3) {
		c.Path = append(c.Path, []int{0, 0, 0, 1, 1, 2, -1}[r.Intn(7)])
	}
	for range r.Intn(6) {
		c.Kids = append(c.Kids, kid([]int{z, s, a, p, h, -1, 10}[r.Intn(7)], grownCase(r, depth-1)))
	}
	return c
}

// P9.2: what the chapter's words say, of many Cases.
func TestFlatByWords(t *testing.T) {
	random := rand.New(rand.NewSource(92))
	longest := 0
	for range 3000 {
		c := grownCase(random, 5)
		ins, paths := code.Flat(c)
		if !slices.Equal(ins, codeOf(c, 0, 0)) || !samePaths(paths, branches(c)) {
			t.Fatalf("%v: %s, %v", c, shown(ins), paths)
		}
		longest = max(longest, len(ins))
	}
	if longest < 100 {
		t.Errorf("the longest has %d", longest)
	}
}

// P9.2, R1: as deep as parts may be nested, and wide.
func TestFlatDeep(t *testing.T) {
	const times = 1<<16 - 10
	c := leaf(7)
	for n := range times {
		c = branch([]int{n}, kid(s, c))
	}
	ins, paths := code.Flat(c)
	if len(ins) != 3*times+1 || len(paths) != times || ins[3*times] != byRule(7) {
		t.Fatalf("%d, %d", len(ins), len(paths))
	}
	for n := range times {
		if ins[3*n] != look(n) || ins[3*n+1] != inCase(s, 3*n+3) || ins[3*n+2] != stuck() || !slices.Equal(paths[n], []int{times - 1 - n}) {
			t.Fatalf("%d: %v", n, ins[3*n:3*n+3])
		}
	}
	var kids []api.Kid
	for n := range 100000 {
		kids = append(kids, kid(n, leaf(n)))
	}
	ins, paths = code.Flat(branch(nil, kids...))
	if len(ins) != 200002 || len(paths) != 1 {
		t.Fatalf("%d, %d", len(ins), len(paths))
	}
	for n := range 100000 {
		if ins[n+1] != inCase(n, 100002+n) || ins[100002+n] != byRule(n) {
			t.Fatalf("%d: %v", n, ins[n+1])
		}
	}
}
