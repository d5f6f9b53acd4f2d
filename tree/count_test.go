package tree_test

import (
	"math/rand"
	"slices"
	"testing"

	"ropewalk/api"
	"ropewalk/tree"
)

// P8.3: the chapter's example, and Cases of all Kinds.
func TestRulesAndSize(t *testing.T) {
	other := func(kind int, kids ...api.Kid) api.Case {
		return api.Case{Kind: kind, Rule: 8, Path: []int{1}, Kids: kids}
	}
	for _, x := range []struct {
		c     api.Case
		rules []int
		size  [3]int
	}{
		{caseOf(t, sum, add), []int{0, 1}, [3]int{2, 1, 0}},
		{caseOf(t, sum, h), nil, [3]int{0, 0, 1}},
		{leaf(5), []int{5}, [3]int{1, 0, 0}},
		{leaf(-5), []int{-5}, [3]int{1, 0, 0}},
		{fail(), nil, [3]int{0, 0, 1}},
		{api.Case{}, nil, [3]int{0, 0, 0}},
		{branch(nil), nil, [3]int{0, 1, 0}},
		{branch([]int{-1}, kid(z, fail()), kid(z, fail())), nil, [3]int{0, 1, 2}},
		// Kids in their order, whatever their symbols are; the same rule as often as it stands there.
		{branch([]int{0}, kid(a, leaf(2)), kid(z, leaf(1)), kid(-7, leaf(3)), kid(z, leaf(1))), []int{2, 1, 3, 1}, [3]int{4, 1, 0}},
		// All beneath a kid ahead of the next one.
		{branch(nil, kid(z, branch(nil, kid(z, leaf(4)), kid(s, branch(nil, kid(z, leaf(3)))))), kid(s, leaf(2)), kid(a, branch(nil, kid(z, fail()), kid(s, leaf(1))))), []int{4, 3, 2, 1}, [3]int{4, 4, 1}},
		// Other Kinds, and what hangs beneath them.
		{other(0, kid(z, leaf(1))), nil, [3]int{0, 0, 0}},
		{other(4, kid(z, leaf(1)), kid(s, fail())), nil, [3]int{0, 0, 0}},
		{other(-1, kid(z, branch(nil, kid(z, leaf(1))))), nil, [3]int{0, 0, 0}},
		{branch(nil, kid(z, other(9, kid(z, leaf(1)))), kid(s, leaf(2))), []int{2}, [3]int{1, 1, 0}},
		// A leaf and a fail have no kids.
		{other(api.Leaf, kid(z, leaf(1))), []int{8}, [3]int{1, 0, 0}},
		{other(api.Fail, kid(z, leaf(1))), nil, [3]int{0, 0, 1}},
		{other(api.Branch, kid(z, leaf(1))), []int{1}, [3]int{1, 1, 0}},
	} {
		if l := tree.Rules(x.c); !slices.Equal(l, x.rules) {
			t.Errorf("%v: Rules %v", x.c, l)
		}
		if leaves, branches, fails := tree.Size(x.c); [3]int{leaves, branches, fails} != x.size {
			t.Errorf("%v: Size %d %d %d", x.c, leaves, branches, fails)
		}
	}
}

// P8.3, R1: as deep as parts may be nested, and wide.
func TestRulesAndSizeDeep(t *testing.T) {
	c := deep(nil, 1<<16-10)
	if leaves, branches, fails := tree.Size(c); leaves != 1 || branches != 1<<16-10 || fails != 0 {
		t.Errorf("%d %d %d", leaves, branches, fails)
	}
	if l := tree.Rules(c); !slices.Equal(l, []int{7}) {
		t.Errorf("%v", l)
	}
	var kids []api.Kid
	for n := range 100000 {
		kids = append(kids, kid(n, leaf(n)))
	}
	if l := tree.Rules(branch(nil, kids...)); len(l) != 100000 || l[99999] != 99999 || !slices.IsSorted(l) {
		t.Errorf("%d", len(l))
	}
}

// counted is how many nodes of a Kind a Case has, by its words.
func counted(c api.Case, kind int) []int {
	var l []int
	if c.Kind == kind {
		l = append(l, c.Rule)
	}
	for _, x := range c.Kids {
		if c.Kind == api.Branch {
			l = append(l, counted(x.Case, kind)...)
		}
	}
	return l
}

// P8.3: what its words say, of many Cases.
func TestRulesAndSizeByWords(t *testing.T) {
	random := rand.New(rand.NewSource(83))
	for range 3000 {
		c := grownCase(random, 6)
		if l := tree.Rules(c); !slices.Equal(l, counted(c, api.Leaf)) {
			t.Fatalf("%v: %v", c, l)
		}
		leaves, branches, fails := tree.Size(c)
		if leaves != len(counted(c, api.Leaf)) || branches != len(counted(c, api.Branch)) || fails != len(counted(c, api.Fail)) {
			t.Fatalf("%v: %d %d %d", c, leaves, branches, fails)
		}
	}
}
