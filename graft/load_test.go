package graft_test

import (
	"math"
	"slices"
	"testing"

	"ropewalk/api"
	"ropewalk/graft"
	"ropewalk/sig"
)

// P13.1 to P13.3: the chapter's examples.
func TestExamples(t *testing.T) {
	g, h := signature(t), empty(t, 40)
	loads(t, g, h, api.Term{2, 0, 1, 0}, 3, app(0), app(1, 0), app(0), app(2, 2, 1))
	noLoad(t, g, h, api.Term{1}, "130@0 23")
	noLoad(t, g, h, api.Term{1, -1}, "130@0")
	noLoad(t, g, h, api.Term{9}, "130@0 21")
	h.Make(3, 3)
	c := rights(side(by(2), at(0), by(1), at(0)), side(at(0)), side(at(1)))
	builds(t, g, c, h, 0, 4, 6, app(1, 3), app(2, 3, 5))
	builds(t, g, c, h, 1, 4, 3)
	noBuild(t, g, c, h, 3, 4, "132@0 91")
	noBuild(t, g, c, h, 2, 4, "132@0")
	x := graft.Of(h)
	heads(t, x, 4, 3, false)
	leads(t, x, 4, 0, 3)
	leads(t, x, 4, 1, -1)
	heads(t, x, 9, -1, false)
}

// P13.1: symbols without arguments, with one, with several, with six; constructors and defined ones; the last of the list has the least address.
func TestLoad(t *testing.T) {
	for _, c := range []struct {
		x    api.Term
		want []api.Node
	}{
		{api.Term{z}, []api.Node{app(z)}},
		{api.Term{r}, []api.Node{app(r)}},
		{api.Term{s, z}, []api.Node{app(z), app(s, 0)}},
		{api.Term{d, s, r}, []api.Node{app(r), app(s, 0), app(d, 1)}},
		{api.Term{p, z, r}, []api.Node{app(r), app(z), app(p, 1, 0)}},
		{api.Term{p, s, z, r}, []api.Node{app(r), app(z), app(s, 1), app(p, 2, 0)}},
		{api.Term{p, r, s, z}, []api.Node{app(z), app(s, 0), app(r), app(p, 2, 1)}},
		{api.Term{f, z, s, z, r}, []api.Node{app(r), app(z), app(s, 1), app(z), app(f, 3, 2, 0)}},
		{api.Term{f, p, z, r, d, z, p, r, z}, []api.Node{app(z), app(r), app(p, 1, 0), app(z), app(d, 3), app(r), app(z), app(p, 6, 5), app(f, 7, 4, 2)}},
		{api.Term{six, z, r, z, r, z, r}, []api.Node{app(r), app(z), app(r), app(z), app(r), app(z), app(six, 5, 4, 3, 2, 1, 0)}},
		{api.Term{six, z, s, z, z, p, z, r, z, z}, []api.Node{app(z), app(z), app(r), app(z), app(p, 3, 2), app(z), app(z), app(s, 6), app(z), app(six, 8, 7, 5, 4, 1, 0)}},
	} {
		for _, room := range []int{len(c.x), len(c.x) + 1, 4000} {
			loads(t, signature(t), empty(t, room), c.x, len(c.x)-1, c.want...)
		}
	}
}

// P13.1: each place becomes a node of its own, however alike the subterms are, and however alike to what is there.
func TestLoadSharesNothing(t *testing.T) {
	g, h := signature(t), empty(t, 30)
	x := api.Term{p, s, z, s, z}
	loads(t, g, h, x, 4, app(z), app(s, 0), app(z), app(s, 2), app(p, 3, 1))
	loads(t, g, h, x, 9, app(z), app(s, 5), app(z), app(s, 7), app(p, 8, 6))
	loads(t, g, h, api.Term{z}, 10, app(z))
}

// P13.1: what is laid stands behind what is there, marks and indirections too, which stay; it is Fresh.
func TestLoadBehindOthers(t *testing.T) {
	h := refilled(t, 12, marked(2, z), ind(0), marked(1, p, 1, 5), app(1000000), ind(2), marked(1, r))
	loads(t, signature(t), h, api.Term{p, s, z, r}, 9, app(r), app(z), app(s, 7), app(p, 8, 6))
	loads(t, signature(t), h, api.Term{s, z}, 11, app(z), app(s, 10))
}

// P13.1: lists that are no terms, with the number that term.Check tells; they are no terms in a heap without room, too.
func TestLoadNoTerm(t *testing.T) {
	g := signature(t)
	long := slices.Concat(slices.Repeat(api.Term{s}, 2000), api.Term{z})
	for _, c := range []struct {
		x    api.Term
		want string
	}{
		{nil, "130@0 23"},
		{api.Term{}, "130@0 23"},
		{api.Term{s}, "130@0 23"},
		{api.Term{p, z}, "130@0 23"},
		{api.Term{p, z, s}, "130@0 23"},
		{api.Term{z, z}, "130@0 23"},
		{api.Term{s, z, r}, "130@0 23"},
		{api.Term{six, z, z, z, z, z}, "130@0 23"},
		{api.Term{six, z, z, z, z, z, z, z}, "130@0 23"},
		{api.Term{s, -1, -1}, "130@0 23"}, // a variable is told only of a term
		{api.Term{p, -1}, "130@0 23"},
		{api.Term{lacking}, "130@0 21"},
		{api.Term{math.MaxInt}, "130@0 21"},
		{api.Term{s, lacking}, "130@0 21"},
		{api.Term{p, -1, lacking}, "130@0 21"},
		{api.Term{lacking, -100}, "130@0 21"},
		{api.Term{-100}, "130@0 22"},
		{api.Term{math.MinInt}, "130@0 22"},
		{api.Term{s, -100}, "130@0 22"},
		{api.Term{p, -100, lacking}, "130@0 22"},
		{long, "130@0 20"},
		{append(slices.Clone(long), lacking, -1, -100), "130@0 20"},
	} {
		for _, room := range []int{1, 4000} {
			noLoad(t, g, empty(t, room), c.x, c.want)
			noLoad(t, g, refilled(t, room, app(z)), c.x, c.want)
		}
	}
}

// P13.1: terms that have a variable, ahead of whether there is room.
func TestLoadVariable(t *testing.T) {
	g := signature(t)
	for _, x := range []api.Term{{-1}, {-2}, {-99}, {s, -1}, {s, -99}, {p, z, -7}, {p, -7, z}, {p, -1, -1}, {f, z, s, s, -50, r}} {
		noLoad(t, g, empty(t, 4000), x, "130@0")
		noLoad(t, g, empty(t, 1), x, "130@0")
		noLoad(t, g, refilled(t, 1, app(z)), x, "130@0")
	}
}

// P13.1: as many symbols as there is room left, and one more.
func TestLoadRoom(t *testing.T) {
	g := signature(t)
	for room := 1; room <= 12; room++ {
		for used := 0; used <= room; used++ {
			for size := 1; size <= 13; size++ {
				h := refilled(t, room, slices.Repeat([]api.Node{app(z)}, used)...)
				x := append(slices.Repeat(api.Term{s}, size-1), r)
				if size > room-used {
					noLoad(t, g, h, x, "131@0 111")
					continue
				}
				more := []api.Node{app(r)}
				for a := used; len(more) < size; a++ {
					more = append(more, app(s, a))
				}
				loads(t, g, h, x, used+size-1, more...)
			}
		}
	}
}

// P13.1, Limits: a term of MaxTerm symbols, one beneath the other and side by side; a heap of MaxRoom takes two of them and no more.
func TestLoadLong(t *testing.T) {
	g := signature(t)
	deep := append(slices.Repeat(api.Term{s}, 1999), z)
	comb := append(slices.Repeat(api.Term{p, z}, 999), s, z)
	for _, x := range []api.Term{deep, comb} {
		if len(x) != 2000 {
			t.Fatal(len(x))
		}
		h := empty(t, 4000)
		agreesLoad(t, g, h, x)
		noLoad(t, g, refilled(t, 2000, app(z)), x, "131@0 111")
		noLoad(t, g, empty(t, 1999), x, "131@0 111")
		if a, err := graft.Load(g, h, x); a != 3999 || err != nil {
			t.Errorf("Load: %d, %s", a, told(t, err))
		}
		if got := modelOf(t, h); !slices.Equal(got.term(3999), x) || !slices.Equal(got.term(1999), x) {
			t.Error("the term is another one")
		}
		noLoad(t, g, h, api.Term{z}, "131@0 111")
	}
}

// P13.1: what is a symbol, and of how many arguments, says the signature that is handed in.
func TestLoadBySignature(t *testing.T) {
	g, h := sig.New(), empty(t, 9)
	noLoad(t, g, h, api.Term{0}, "130@0 21")
	noLoad(t, g, h, nil, "130@0 23")
	g.Add(api.Symbol{Name: "two", Arity: 2})
	noLoad(t, g, h, api.Term{0}, "130@0 23")
	g.Add(api.Symbol{Name: "one"})
	loads(t, g, h, api.Term{0, 1, 1}, 2, app(1), app(1), app(0, 1, 0))
	noLoad(t, signature(t), h, api.Term{0, 1, 1}, "130@0 23")
}
