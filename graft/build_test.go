package graft_test

import (
	"math"
	"slices"
	"testing"

	"ropewalk/api"
	"ropewalk/heap"
	"ropewalk/sig"
)

// twigs is a heap with applications and indirections: six of 0 1 2 3 4 5 stands at 6, and 7 is an indirection to it.
func twigs(t *testing.T, room int) *heap.Heap {
	t.Helper()
	return refilled(t, room,
		marked(2, z),               // 0
		marked(1, r),               // 1
		app(s, 0),                  // 2
		app(p, 2, 1),               // 3
		ind(3),                     // 4
		ind(4),                     // 5: to an indirection
		app(six, 0, 1, 2, 3, 4, 5), // 6
		ind(6),                     // 7
		app(d, 7),                  // 8
	)
}

// P13.2: right sides with symbols of no, one, several and six arguments; the addresses of what is laid.
func TestBuild(t *testing.T) {
	for _, c := range []struct {
		side []api.Part
		want int
		more []api.Node
	}{
		{side(by(z)), 9, []api.Node{app(z)}},
		{side(by(s), by(r)), 10, []api.Node{app(r), app(s, 9)}},
		{side(by(s), at(0)), 9, []api.Node{app(s, 0)}},
		{side(by(p), at(0), at(1)), 9, []api.Node{app(p, 0, 1)}},
		{side(by(p), at(1), at(0)), 9, []api.Node{app(p, 1, 0)}},
		{side(by(p), at(2), at(2)), 9, []api.Node{app(p, 2, 2)}},
		{side(by(p), by(z), at(2)), 10, []api.Node{app(z), app(p, 9, 2)}},
		{side(by(p), at(2), by(z)), 10, []api.Node{app(z), app(p, 2, 9)}},
		{side(by(p), by(z), by(r)), 11, []api.Node{app(r), app(z), app(p, 10, 9)}},
		{side(by(f), by(s), at(0), at(1), by(d), by(z)), 12, []api.Node{app(z), app(d, 9), app(s, 0), app(f, 11, 1, 10)}},
		{side(by(f), at(2), by(p), by(z), at(1), by(s), at(0)), 12, []api.Node{app(s, 0), app(z), app(p, 10, 1), app(f, 2, 11, 9)}},
		{side(by(six), at(0), by(z), at(1), by(r), at(2), by(z)), 12, []api.Node{app(z), app(r), app(z), app(six, 0, 11, 1, 10, 2, 9)}},
		{side(by(p), by(p), by(p), at(0), at(1), at(2), at(3)), 11, []api.Node{app(p, 0, 1), app(p, 9, 2), app(p, 10, 3)}},
		{side(by(p), at(0), by(p), at(1), by(p), at(2), at(3)), 11, []api.Node{app(p, 2, 3), app(p, 1, 9), app(p, 0, 10)}},
	} {
		for _, node := range []int{6, 7} { // an indirection is what it points to
			builds(t, signature(t), rights(c.side), twigs(t, 20), 0, node, c.want, c.more...)
		}
	}
}

// P13.2: paths: the empty one, long ones, and over indirections, which are taken for what they are, on the way and at the end.
func TestBuildPaths(t *testing.T) {
	g := signature(t)
	for _, c := range []struct {
		node int
		path []int
		want int
	}{
		{0, nil, 0}, {6, nil, 6}, {7, nil, 6}, {5, nil, 3}, {8, nil, 8},
		{6, []int{}, 6},
		{6, []int{0}, 0}, {6, []int{1}, 1}, {6, []int{2}, 2}, {6, []int{3}, 3}, {6, []int{4}, 3}, {6, []int{5}, 3},
		{7, []int{0}, 0}, {7, []int{5}, 3},
		{6, []int{3, 1}, 1}, {6, []int{4, 0}, 2}, {6, []int{5, 0}, 2}, {6, []int{5, 0, 0}, 0}, {7, []int{4, 0, 0}, 0},
		{8, []int{0}, 6}, {8, []int{0, 5}, 3}, {8, []int{0, 5, 0, 0}, 0}, {4, []int{0, 0}, 0}, {5, []int{1}, 1},
	} {
		h := twigs(t, 11)
		builds(t, g, rights(side(at(c.path...))), h, 0, c.node, c.want)
		builds(t, g, rights(side(by(p), at(c.path...), by(z))), h, 0, c.node, 10, app(z), app(p, c.want, 9))
		builds(t, g, rights(side(at(c.path...))), h, 0, c.node, c.want) // it takes no room
	}
}

// P13.2: paths that lead nowhere.
func TestBuildNowhere(t *testing.T) {
	g := signature(t)
	for _, c := range []struct {
		node int
		path []int
	}{
		{0, []int{0}}, {1, []int{0}}, {2, []int{1}}, {2, []int{-1}}, {2, []int{0, 0}}, {3, []int{2}}, {4, []int{2}},
		{6, []int{6}}, {6, []int{-1}}, {6, []int{math.MaxInt}}, {6, []int{math.MinInt}}, {6, []int{0, 0}}, {6, []int{5, 2}},
		{7, []int{6}}, {8, []int{1}}, {8, []int{1, 0}}, {8, []int{-1, 0}}, {8, []int{0, 6, 0}}, {8, []int{0, 5, 0, 0, 0}},
		{8, make([]int, 5000)}, {8, slices.Repeat([]int{-1}, 5000)},
	} {
		noBuild(t, g, rights(side(at(c.path...))), twigs(t, 20), 0, c.node, "132@0")
		noBuild(t, g, rights(side(by(p), at(), at(c.path...))), twigs(t, 20), 0, c.node, "132@2")
	}
}

// P13.2: the right side of the rule's number.
func TestBuildByRule(t *testing.T) {
	c := rights(side(by(z)), side(at(0)), side(by(r)), side(by(s), at()))
	g := signature(t)
	builds(t, g, c, twigs(t, 10), 0, 8, 9, app(z))
	builds(t, g, c, twigs(t, 10), 1, 8, 6)
	builds(t, g, c, twigs(t, 10), 2, 8, 9, app(r))
	builds(t, g, c, twigs(t, 10), 3, 8, 9, app(s, 8))
}

// P13.2: rules that are not there, ahead of all else.
func TestBuildNoRule(t *testing.T) {
	g := signature(t)
	for _, rule := range outside(2) {
		c := rights(side(by(z)), side(at(5)))
		for _, node := range []int{0, 8, 9, -1} {
			noBuild(t, g, c, twigs(t, 9), rule, node, "132@0 91")
		}
	}
	for _, c := range []api.Code{{}, {Rights: [][]api.Part{}}, {Ins: []api.Ins{{Op: api.OpRule}}, Entry: []int{0}, Paths: [][]int{{0}}}} {
		for _, rule := range []int{0, 1, -1, math.MinInt, math.MaxInt} {
			noBuild(t, g, c, twigs(t, 20), rule, 0, "132@0 91")
			noBuild(t, g, c, empty(t, 1), rule, 0, "132@0 91")
		}
	}
}

// P13.2: nodes that are not there, below 0 and from Used on, ahead of all that is wrong with the parts.
func TestBuildNoNode(t *testing.T) {
	g := signature(t)
	for _, l := range [][]api.Part{nil, side(by(z)), side(at()), side(at(0)), side(by(lacking)), side(by(-2)), side(by(s)), side(by(s), by(lacking))} {
		for _, room := range []int{9, 20, 4000} {
			for _, node := range outside(9) {
				noBuild(t, g, rights(l), twigs(t, room), 0, node, "132@0 112")
			}
		}
		for _, node := range append(outside(0), 1) {
			noBuild(t, g, rights(l), empty(t, 3), 0, node, "132@0 112")
		}
	}
}

// P13.2: symbols that the signature lacks, Symbols below -1, paths that lead nowhere: the first of them, At its number, ahead of the shape and of the room.
func TestBuildParts(t *testing.T) {
	g := signature(t)
	for _, c := range []struct {
		side []api.Part
		want string
	}{
		{side(by(lacking)), "132@0 14"},
		{side(by(math.MaxInt)), "132@0 14"},
		{side(by(-2)), "132@0"},
		{side(by(math.MinInt)), "132@0"},
		{side(at(1)), "132@0"},
		{side(by(s), by(lacking)), "132@1 14"},
		{side(by(s), by(-2)), "132@1"},
		{side(by(s), at(1)), "132@1"},
		{side(by(p), by(lacking), at(1)), "132@1 14"},
		{side(by(p), at(1), by(lacking)), "132@1"},
		{side(by(p), by(-3), by(lacking)), "132@1"},
		{side(by(p), by(lacking), by(-3)), "132@1 14"},
		{side(by(p), at(0), by(-99)), "132@2"},
		{side(by(six), at(), at(0), by(z), by(s), at(0), by(z), by(lacking)), "132@7 14"},
		// behind the end of the first thing, and where something is lacking
		{side(by(z), by(lacking)), "132@1 14"},
		{side(at(), at(1)), "132@1"},
		{side(at(), at(), at(), by(-2)), "132@3"},
		{side(by(p), by(s), by(lacking)), "132@2 14"},
		{side(by(p), by(p), at(7)), "132@2"},
		// a Path counts beside a Symbol -1 alone
		{side(api.Part{Symbol: lacking, Path: []int{0}}), "132@0 14"},
		{side(api.Part{Symbol: -2, Path: []int{0}}), "132@0"},
	} {
		for _, room := range []int{9, 20} {
			noBuild(t, g, rights(c.side), twigs(t, room), 0, 8, c.want)
		}
	}
}

// P13.2: a symbol's Path is not looked at.
func TestBuildPathOfSymbol(t *testing.T) {
	l := side(api.Part{Symbol: s, Path: []int{9, -1}}, api.Part{Symbol: z, Path: []int{0}})
	builds(t, signature(t), rights(l), twigs(t, 11), 0, 8, 10, app(z), app(s, 9))
}

// P13.2: parts that are no list in prefix order of one thing, ahead of the room.
func TestBuildShape(t *testing.T) {
	g := signature(t)
	for _, l := range [][]api.Part{
		nil,
		{},
		side(by(s)),
		side(by(p)),
		side(by(p), at()),
		side(by(p), by(s), at()),
		side(by(p), at(), by(s)),
		side(by(six), at(), at(), at(), at(), at()),
		side(by(six), at(), at(), at(), at(), at(), by(d)),
		side(at(), at()),
		side(at(), by(z)),
		side(by(z), at()),
		side(by(z), by(z)),
		side(by(s), at(), at(0)),
		side(by(p), at(), at(), by(z)),
		side(by(six), at(), at(), at(), at(), at(), at(), at()),
		side(by(z), by(s), by(z)),
		side(by(z), by(p)),
		side(at(), by(s)), // one too many, and one too few: together as many as there should be
		side(by(s), by(z), by(s)),
	} {
		for _, room := range []int{9, 40} {
			noBuild(t, g, rights(l), twigs(t, room), 0, 8, "130@0")
		}
	}
}

// P13.2: as many symbols as there is room left, and one more; what is there already takes none.
func TestBuildRoom(t *testing.T) {
	g := signature(t)
	for free := range 6 {
		for count := range 7 {
			l := slices.Concat(slices.Repeat(side(by(p), at(0)), count), side(at()))
			h := twigs(t, 9+free)
			if count > free {
				noBuild(t, g, rights(l), h, 0, 8, "131@0 111")
				continue
			}
			if count == 0 {
				builds(t, g, rights(l), h, 0, 8, 8)
				continue
			}
			more := []api.Node{app(p, 6, 8)}
			for a := 9; len(more) < count; a++ {
				more = append(more, app(p, 6, a))
			}
			builds(t, g, rights(l), h, 0, 8, 8+count, more...)
		}
	}
	// One heap, filled to the brim.
	h := twigs(t, 13)
	c := rights(side(by(s), by(s), at()), side(at()))
	builds(t, g, c, h, 0, 8, 10, app(s, 8), app(s, 9))
	builds(t, g, c, h, 0, 10, 12, app(s, 10), app(s, 11))
	noBuild(t, g, c, h, 0, 12, "131@0 111")
	builds(t, g, c, h, 1, 12, 12)
}

// P13.2: which node it is says the heap as it is then: the same call for the same address, ahead of a Point and behind it.
func TestBuildBehindPoint(t *testing.T) {
	g, h := signature(t), refilled(t, 9, app(z), app(s, 0), app(r), app(d, 2))
	c := rights(side(by(p), at(), at(0)))
	builds(t, g, c, h, 0, 3, 4, app(p, 3, 2))
	if e := h.Point(2, 1); e != api.OK {
		t.Fatal(e)
	}
	builds(t, g, c, h, 0, 3, 5, app(p, 3, 1))
	if e := h.Point(3, 2); e != api.OK {
		t.Fatal(e)
	}
	builds(t, g, c, h, 0, 3, 6, app(p, 1, 0))
	builds(t, g, c, h, 0, 2, 7, app(p, 1, 0))
}

// P13.2: a node's symbol and how many arguments it has are asked of the heap alone: the signature may lack it, or know it with others.
func TestBuildAnyNode(t *testing.T) {
	h := refilled(t, 9, app(1000000), app(z, 0, 0), app(six, 1), ind(2))
	c := rights(side(by(s), at(0, 1)))
	builds(t, signature(t), c, h, 0, 3, 4, app(s, 0))
	noBuild(t, signature(t), c, h, 0, 1, "132@1")
}

// P13.2: what is a symbol, and of how many arguments, says the signature that is handed in.
func TestBuildBySignature(t *testing.T) {
	g, h := sig.New(), refilled(t, 9, app(5))
	c := rights(side(by(0), at()))
	noBuild(t, g, c, h, 0, 0, "132@0 14")
	g.Add(api.Symbol{Name: "a", Arity: 1})
	builds(t, g, c, h, 0, 0, 1, app(0, 0))
	noBuild(t, signature(t), c, h, 0, 0, "130@0")
	builds(t, sig.New(), rights(side(at())), h, 0, 1, 1)
}

// P13.2, R1: long right sides, made by hand: one beneath the other, side by side, and far more parts than there is room for.
func TestBuildLong(t *testing.T) {
	g := signature(t)
	for _, l := range [][]api.Part{
		slices.Concat(slices.Repeat(side(by(s)), 3999), side(at())),
		slices.Concat(slices.Repeat(side(by(p), at()), 3999), side(at())),
		slices.Concat(slices.Repeat(side(by(six), at(), at(), at(), at(), at()), 3999), side(at())),
	} {
		if word := agreesBuild(t, g, rights(l), refilled(t, 4000, app(z)), 0, 0); word != "" {
			t.Errorf("Build: %s", word)
		}
		noBuild(t, g, rights(l), refilled(t, 4000, app(z), app(z)), 0, 0, "131@0 111")
	}
	h := refilled(t, 4000, app(z))
	noBuild(t, g, rights(append(slices.Repeat(side(by(s)), 200000), at())), h, 0, 0, "131@0 111")
	noBuild(t, g, rights(slices.Repeat(side(by(s)), 200000)), h, 0, 0, "130@0")
	noBuild(t, g, rights(slices.Repeat(side(at()), 200000)), h, 0, 0, "130@0")
	noBuild(t, g, rights(append(slices.Repeat(side(at()), 200000), by(-2))), h, 0, 0, "132@200000")
}

// P13.2, R1: deep paths, by arguments and by indirections, from one end of a great heap to the other.
func TestBuildDeep(t *testing.T) {
	g := signature(t)
	byArgs, byBoth, byPoints := []api.Node{app(z)}, []api.Node{app(z)}, []api.Node{app(z)}
	for a := range 3998 {
		byArgs = append(byArgs, app(s, a))
		byPoints = append(byPoints, ind(a))
		if a%2 == 0 {
			byBoth = append(byBoth, app(s, a))
		} else {
			byBoth = append(byBoth, ind(a))
		}
	}
	for _, c := range []struct {
		nodes []api.Node
		path  []int
	}{{byArgs, make([]int, 3998)}, {byPoints, nil}, {byBoth, make([]int, 1999)}} {
		h := refilled(t, 4000, c.nodes...)
		builds(t, g, rights(side(at(c.path...))), h, 0, 3998, 0)
		noBuild(t, g, rights(side(by(s), at(append(slices.Clone(c.path), 0)...))), h, 0, 3998, "132@1")
		builds(t, g, rights(side(by(s), at(c.path...))), h, 0, 3998, 3999, app(s, 0))
	}
}
