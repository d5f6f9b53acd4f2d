package code_test

import (
	"math"
	"math/rand"
	"slices"
	"strings"
	"testing"

	"ropewalk/api"
	"ropewalk/code"
)

// P9.4: the chapter's examples.
func TestRunExamples(t *testing.T) {
	c, err := code.Compile(few(t))
	if err != nil {
		t.Fatal(err)
	}
	for _, x := range []struct {
		symbol int
		t      api.Term
		want   api.Found
		e      api.Errno
	}{
		{2, api.Term{2, 1, 0, 0}, fits(1), api.OK},
		{2, api.Term{2, 2, 0, 0, 0}, demand(1, 0), api.OK},
		{3, api.Term{3}, rigid(), api.OK},
		{0, api.Term{0}, none(), api.ErrCodeSymbol},
		{9, api.Term{0}, none(), api.ErrCodeSymbol},
	} {
		if got, e := code.Run(c, x.symbol, code.Over(signature(t), x.t), 0); !sameFound(got, x.want) || e != x.e {
			t.Errorf("%d over %v: %v, %v", x.symbol, x.t, got, e)
		}
	}
}

// P9.4: each way in which compiled code ends, over terms, at the root and at other places.
func TestRun(t *testing.T) {
	const parted = "f(X,z,Y) -> z; f(z,s(X),Y) -> z; f(s(X),s(Y),a) -> z"
	for _, x := range []struct {
		rules  string
		symbol int
		term   string
		at     int
		want   api.Found
	}{
		// A rule fits: at once, and behind looks; whatever its variables stand for.
		{"h -> z", h, "h", 0, fits(0)},
		{"h -> z; k(X) -> X", k, "k(k(h))", 1, fits(1)},
		{sum, add, "add(z,h)", 0, fits(0)},
		{sum, add, "add(s(add(h,h)),add(h,h))", 0, fits(1)},
		{sum, add, "p(add(s(z),z),add(z,z))", 1, fits(1)},
		{sum, add, "p(add(s(z),z),add(z,z))", 5, fits(0)},
		{parted, f, "f(h,z,h)", 0, fits(0)},
		{parted, f, "f(z,s(h),h)", 0, fits(1)},
		{parted, f, "f(s(h),s(h),a)", 0, fits(2)},
		{"g(A,B,C,D,E,z) -> z; g(A,B,C,D,E,s(F)) -> z", g, "g(h,h,h,h,h,s(h))", 0, fits(1)},
		// A constructor that there is no case for; no rules.
		{sum, add, "add(a,h)", 0, rigid()},
		{sum, add, "p(add(z,z),add(p(h,h),z))", 4, rigid()},
		{parted, f, "f(h,a,h)", 0, rigid()},
		{parted, f, "f(s(h),s(h),p(h,h))", 0, rigid()},
		{sum, h, "h", 0, rigid()},
		{sum, f, "f(h,z,a)", 0, rigid()},
		{sum, g, "s(g(h,h,h,h,h,h))", 1, rigid()},
		// A defined symbol: the path from the place, and the place in the whole term.
		{sum, add, "add(h,z)", 0, demand(1, 0)},
		{sum, add, "p(add(z,z),add(add(h,h),z))", 4, demand(5, 0)},
		{parted, f, "f(add(z,z),h,h)", 0, demand(4, 1)},
		{parted, f, "p(f(z,z,z),f(s(h),s(add(a,a)),h))", 5, demand(12, 2)},
		{"k(s(p(X,a))) -> z", k, "k(s(p(six(z,z,z,z,z,z),h)))", 0, demand(10, 0, 0, 1)},
		{"g(A,B,C,D,E,six(A1,B1,C1,D1,E1,z)) -> z", g, "g(z,z,z,z,s(z),six(z,z,z,z,s(z),h))", 0, demand(14, 5, 5)},
		// A term knows nothing of what is rigid: a defined symbol that no rule ever fits is demanded, too.
		{sum, add, "add(add(a,z),z)", 0, demand(1, 0)},
		{sum, add, "add(k(z),z)", 0, demand(1, 0)},
		// What stands at the place itself is not looked at.
		{sum, add, "p(s(h),z)", 0, fits(1)},
		{sum, add, "k(a)", 0, rigid()},
		{sum, h, "six(z,z,z,z,z,z)", 3, rigid()},
		// A path that leads to no place: nothing stands there, and there is no case for it.
		{sum, add, "z", 0, rigid()},
		{sum, add, "add(z,z)", 3, rigid()},
		{sum, add, "add(z,z)", -1, rigid()},
		{"h -> z", h, "z", 77, fits(0)},
	} {
		v := code.Over(signature(t), term(t, x.term))
		if got, e := code.Run(compiled(t, x.rules), x.symbol, v, x.at); !sameFound(got, x.want) || e != api.OK {
			t.Errorf("%s at %d: %v, %v", x.term, x.at, got, e)
		}
	}
}

// P9.4: symbols that have no code, whatever the code and the node are; no view ahead of that.
func TestRunNoSymbol(t *testing.T) {
	v := code.Over(signature(t), term(t, "add(z,z)"))
	for _, c := range []api.Code{
		compiled(t, sum),
		{},
		{Entry: []int{-1, -2, math.MinInt}},
		{Entry: []int{-1}, Ins: []api.Ins{byRule(1)}},
	} {
		for _, n := range []int{z, s, a, p, six, -1, -2, 10, 11, 64, math.MaxInt, math.MinInt} {
			for _, node := range []int{0, -1, 9} {
				if got, e := code.Run(c, n, v, node); !sameFound(got, none()) || e != api.ErrCodeSymbol {
					t.Errorf("%d: %v, %v", n, got, e)
				}
				if got, e := code.Run(c, n, nil, node); !sameFound(got, none()) || e != api.ErrArg {
					t.Errorf("%d without a view: %v, %v", n, got, e)
				}
			}
		}
	}
	// Spare room is no part of a list.
	c := compiled(t, sum)
	c.Entry = c.Entry[:2]
	if got, e := code.Run(c, add, v, 0); !sameFound(got, none()) || e != api.ErrCodeSymbol {
		t.Errorf("spare room: %v, %v", got, e)
	}
}

// P9.4, R1: no view, as such and as a nil pointer, ahead of all else.
func TestRunNoView(t *testing.T) {
	for _, c := range []api.Code{compiled(t, sum), compiled(t, "add(X,Y) -> X"), {}, {Entry: []int{5, 5, 5}}} {
		for _, v := range []code.View{nil, (*code.Plain)(nil)} {
			for _, n := range []int{add, h, z, -1, 99} {
				if got, e := code.Run(c, n, v, 0); !sameFound(got, none()) || e != api.ErrArg {
					t.Errorf("%d: %v, %v", n, got, e)
				}
			}
		}
	}
	v := code.Over(signature(t), term(t, "add(s(z),z)"))
	if got, e := code.Run(compiled(t, sum), add, &v, 0); !sameFound(got, fits(1)) || e != api.OK {
		t.Errorf("a pointer to a view: %v, %v", got, e)
	}
}

// gone is a view that can't be asked: behind a nil pointer, or by its own doing.
type gone struct{ symbol int }

func (x *gone) Head(node int) (int, bool) { return x.symbol, false }

func (x *gone) Arg(node, n int) int {
	if n == 1 {
		panic(nil)
	}
	return node
}

// R1: a view of somebody else's that panics: it is no view, where it is asked.
func TestRunViewPanics(t *testing.T) {
	c := api.Code{Entry: []int{0, 2, 4}, Paths: [][]int{nil, {0, 1}}, Ins: []api.Ins{look(0), stuck(), look(1), stuck(), byRule(3)}}
	for _, x := range []struct {
		v      code.View
		symbol int
		want   api.Found
		e      api.Errno
	}{
		{(*gone)(nil), 0, none(), api.ErrArg},
		{(*gone)(nil), 1, none(), api.ErrArg},
		{(*graph)(nil), 0, none(), api.ErrArg},
		{&gone{}, 1, none(), api.ErrArg},
		{&gone{}, 0, demand(6), api.OK},
		{&gone{7}, 0, rigid(), api.OK},
		{&gone{}, 2, fits(3), api.OK},
		{&gone{}, 3, none(), api.ErrCodeSymbol},
	} {
		if got, e := code.Run(c, x.symbol, x.v, 6); !sameFound(got, x.want) || e != x.e {
			t.Errorf("%v, %d: %v, %v", x.v, x.symbol, got, e)
		}
	}
}

// P9.4: Codes that were made by hand, over add(s(z),h) at its root; symbol 0 is the one that is run, and 1 (s) and 2 (add) have none.
func TestRunByHand(t *testing.T) {
	paths := [][]int{{}, {0}, {0, 0}, {1}, {5, 0, 7}, {-1}}
	for _, x := range []struct {
		what  string
		entry int
		ins   []api.Ins
		want  api.Found
		e     api.Errno
	}{
		{"a rule", 0, []api.Ins{byRule(5)}, fits(5), api.OK},
		{"a rule of any number, its B too", 0, []api.Ins{{Op: api.OpRule, A: math.MinInt, B: 9}}, fits(math.MinInt), api.OK},
		{"stuck, its A and B too", 0, []api.Ins{{Op: api.OpStuck, A: 3, B: 9}}, rigid(), api.OK},
		// Where nothing stands.
		{"no instruction", 0, nil, none(), api.ErrCodeForm},
		{"the entry behind the last one", 1, []api.Ins{byRule(5)}, none(), api.ErrCodeForm},
		{"the entry far off", math.MaxInt, []api.Ins{byRule(5)}, none(), api.ErrCodeForm},
		{"the entry in the midst", 1, []api.Ins{byRule(5), byRule(6), byRule(7)}, fits(6), api.OK},
		// Ops that can't stand there.
		{"no Op", 0, []api.Ins{{}}, none(), api.ErrCodeForm},
		{"Op 5", 0, []api.Ins{{Op: 5, A: 1, B: 2}, byRule(1)}, none(), api.ErrCodeForm},
		{"Op below 0", 0, []api.Ins{{Op: -1}, byRule(1)}, none(), api.ErrCodeForm},
		{"a great Op", 0, []api.Ins{{Op: math.MaxInt}, byRule(1)}, none(), api.ErrCodeForm},
		{"a case at first", 0, []api.Ins{inCase(s, 1), byRule(1)}, none(), api.ErrCodeForm},
		{"an Op that there is not, behind a look", 0, []api.Ins{look(1), {Op: 9}}, none(), api.ErrCodeForm},
		// Looks without a path.
		{"a path below 0", 0, []api.Ins{look(-1), stuck()}, none(), api.ErrCodeForm},
		{"a path beyond the last", 0, []api.Ins{look(6), inCase(s, 2), byRule(1)}, none(), api.ErrCodeForm},
		{"a path far off", 0, []api.Ins{look(math.MinInt), stuck()}, none(), api.ErrCodeForm},
		{"a look's B is nothing", 0, []api.Ins{{Op: api.OpLook, A: 1, B: -7}, byRule(4)}, fits(4), api.OK},
		// Cases.
		{"a case", 0, []api.Ins{look(1), inCase(s, 3), stuck(), byRule(1)}, fits(1), api.OK},
		{"the second one", 0, []api.Ins{look(1), inCase(z, 4), inCase(s, 5), stuck(), byRule(1), byRule(2)}, fits(2), api.OK},
		{"the first of two that have it", 0, []api.Ins{look(1), inCase(s, 5), inCase(s, 4), stuck(), byRule(1), byRule(2)}, fits(2), api.OK},
		{"one beneath the other", 0, []api.Ins{look(1), inCase(s, 3), stuck(), look(2), inCase(z, 6), stuck(), byRule(8)}, fits(8), api.OK},
		{"to the place behind the case", 0, []api.Ins{look(1), inCase(s, 2), byRule(1)}, fits(1), api.OK},
		{"to a case", 0, []api.Ins{look(1), inCase(s, 2), inCase(z, 3), byRule(1)}, none(), api.ErrCodeForm},
		{"to itself", 0, []api.Ins{look(1), inCase(s, 1), stuck()}, none(), api.ErrCodeForm},
		{"back", 0, []api.Ins{look(1), inCase(s, 0), stuck()}, none(), api.ErrCodeForm},
		{"back, from the second one", 0, []api.Ins{look(1), inCase(z, 3), inCase(s, 2), byRule(1)}, none(), api.ErrCodeForm},
		{"back, though a later one has it, too", 0, []api.Ins{look(1), inCase(s, 1), inCase(s, 4), stuck(), byRule(1)}, none(), api.ErrCodeForm},
		{"below 0", 0, []api.Ins{look(1), inCase(s, math.MinInt), stuck()}, none(), api.ErrCodeForm},
		{"beyond the last", 0, []api.Ins{look(1), inCase(s, 3), stuck()}, none(), api.ErrCodeForm},
		{"far off", 0, []api.Ins{look(1), inCase(s, math.MaxInt), stuck()}, none(), api.ErrCodeForm},
		{"back, where another symbol stands", 0, []api.Ins{look(1), inCase(z, 0), byRule(1)}, fits(1), api.OK},
		// None has it: on behind them, whatever stands there.
		{"a rule behind", 0, []api.Ins{look(1), inCase(z, 0), inCase(a, 0), byRule(1)}, fits(1), api.OK},
		{"nothing behind cases", 0, []api.Ins{look(1), inCase(z, 2)}, none(), api.ErrCodeForm},
		{"nothing behind a look", 0, []api.Ins{look(1)}, none(), api.ErrCodeForm},
		{"a look behind", 0, []api.Ins{look(1), inCase(z, 9), look(2), inCase(z, 4), byRule(3)}, fits(3), api.OK},
		{"a case that stands farther off is none of them", 0, []api.Ins{look(1), stuck(), inCase(s, 3), byRule(3)}, rigid(), api.OK},
		// The empty path; add has no code here.
		{"the node itself", 0, []api.Ins{look(0), inCase(add, 3), stuck(), byRule(1)}, fits(1), api.OK},
		{"the node itself, no case", 0, []api.Ins{look(0), stuck()}, rigid(), api.OK},
		// Paths that lead to no node.
		{"nowhere", 0, []api.Ins{look(4), inCase(z, 9), byRule(2)}, fits(2), api.OK},
		{"nowhere, a case of -1", 0, []api.Ins{look(5), inCase(-1, 3), stuck(), byRule(6)}, fits(6), api.OK},
		// What stands at the path 1 has code: a case ahead of the demand; else it is demanded, whatever stands behind.
		{"a case for what has code", 0, []api.Ins{look(3), inCase(h, 3), stuck(), byRule(6)}, fits(6), api.OK},
		{"back, for what has code", 0, []api.Ins{look(3), inCase(h, 1), stuck(), byRule(6)}, none(), api.ErrCodeForm},
		{"a demand", 0, []api.Ins{look(3), inCase(z, 9), stuck()}, demand(3, 1), api.OK},
		{"a demand, nothing behind", 0, []api.Ins{look(3)}, demand(3, 1), api.OK},
		{"a demand behind others", 0, []api.Ins{look(1), inCase(s, 3), {}, look(5), look(3), {}}, demand(3, 1), api.OK},
	} {
		c := api.Code{Ins: x.ins, Paths: paths, Entry: []int{x.entry, -1, -1, 0}}
		v := code.Over(signature(t), term(t, "add(s(z),h)"))
		if got, e := code.Run(c, 0, v, 0); !sameFound(got, x.want) || e != x.e {
			t.Errorf("%s: %v, %v", x.what, got, e)
		}
	}
}

// P9.4: spare room behind a list is none of it.
func TestRunSpareRoom(t *testing.T) {
	v := code.Over(signature(t), term(t, "add(s(z),h)"))
	ins := []api.Ins{look(0), inCase(s, 2), byRule(1), byRule(2)}
	paths := [][]int{{0}, {1}}
	for _, x := range []struct {
		c    api.Code
		want api.Found
		e    api.Errno
	}{
		{api.Code{Entry: []int{0}, Paths: paths, Ins: ins}, fits(1), api.OK},
		{api.Code{Entry: []int{0}, Paths: paths, Ins: ins[:2]}, none(), api.ErrCodeForm},
		{api.Code{Entry: []int{0}, Paths: paths, Ins: ins[:1]}, none(), api.ErrCodeForm},
		{api.Code{Entry: []int{3}, Paths: paths, Ins: ins[:3]}, none(), api.ErrCodeForm},
		{api.Code{Entry: []int{0}, Paths: paths[:0], Ins: ins}, none(), api.ErrCodeForm},
		// The path is empty: it leads to add, which has no case.
		{api.Code{Entry: []int{0}, Paths: [][]int{paths[0][:0]}, Ins: append(ins[:2:2], stuck())}, rigid(), api.OK},
	} {
		if got, e := code.Run(x.c, 0, v, 0); !sameFound(got, x.want) || e != x.e {
			t.Errorf("%v: %v, %v", x.c, got, e)
		}
	}
}

// P9.4: views that are not Plain: what is known to be rigid, nodes of any number, and what they are asked.
func TestRunViews(t *testing.T) {
	c := compiled(t, "add(z,X) -> X; add(s(s(X)),Y) -> s(add(X,Y)); add(a,z) -> z")
	for _, x := range []struct {
		what  string
		spots map[int]spot
		node  int
		want  api.Found
		asked string
	}{
		{"a rule fits", map[int]spot{7: {add, false, []int{3, 4}}, 3: {z, true, nil}}, 7, fits(0), "arg 7 0, head 3"},
		{"known to be rigid, and a case has it", map[int]spot{7: {add, true, []int{3, 4}}, 3: {z, true, nil}}, 7, fits(0), "arg 7 0, head 3"},
		{"a node below 0", map[int]spot{-7: {add, false, []int{-3, 4}}, -3: {z, false, nil}}, -7, fits(0), "arg -7 0, head -3"},
		{"shared", map[int]spot{0: {add, false, []int{1, 1}}, 1: {a, false, nil}}, 0, rigid(), "arg 0 0, head 1, arg 0 1, head 1"},
		{"from the node anew with each look", map[int]spot{0: {add, false, []int{5, 1}}, 5: {s, true, []int{6}}, 6: {s, true, []int{9}}}, 0, fits(1), "arg 0 0, head 5, arg 0 0, arg 5 0, head 6"},
		{"demanded", map[int]spot{7: {add, false, []int{3, 4}}, 3: {k, false, nil}}, 7, demand(3, 0), "arg 7 0, head 3"},
		{"demanded farther down", map[int]spot{7: {add, false, []int{3, 4}}, 3: {s, true, []int{12}}, 12: {add, false, nil}}, 7, demand(12, 0, 0), "arg 7 0, head 3, arg 7 0, arg 3 0, head 12"},
		{"the node itself is demanded", map[int]spot{7: {add, false, []int{7, 7}}}, 7, demand(7, 0), "arg 7 0, head 7"},
		{"known to be rigid: not demanded", map[int]spot{7: {add, false, []int{3, 4}}, 3: {k, true, nil}}, 7, rigid(), "arg 7 0, head 3"},
		{"known to be rigid farther down", map[int]spot{7: {add, false, []int{3, 4}}, 3: {s, true, []int{12}}, 12: {h, true, nil}}, 7, rigid(), "arg 7 0, head 3, arg 7 0, arg 3 0, head 12"},
		{"a constructor without a case", map[int]spot{7: {add, false, []int{3, 4}}, 3: {p, false, nil}}, 7, rigid(), "arg 7 0, head 3"},
		{"a constructor without a case, rigid", map[int]spot{7: {add, false, []int{3, 4}}, 3: {p, true, nil}}, 7, rigid(), "arg 7 0, head 3"},
		{"a symbol that the code lacks", map[int]spot{7: {add, false, []int{3, 4}}, 3: {10, false, nil}}, 7, rigid(), "arg 7 0, head 3"},
		{"a great symbol", map[int]spot{7: {add, false, []int{3, 4}}, 3: {math.MaxInt, false, nil}}, 7, rigid(), "arg 7 0, head 3"},
		{"a symbol below 0", map[int]spot{7: {add, false, []int{3, 4}}, 3: {math.MinInt, false, nil}}, 7, rigid(), "arg 7 0, head 3"},
		{"no node", nil, 7, rigid(), "arg 7 0, head -1"},
		{"of a node -1 it is asked, too", map[int]spot{7: {add, false, []int{3}}, 3: {s, true, nil}, -1: {z, false, nil}}, 7, rigid(), "arg 7 0, head 3, arg 7 0, arg 3 0, head -1"},
		{"a node -1 is demanded", map[int]spot{7: {add, false, nil}, -1: {h, false, nil}}, 7, demand(-1, 0), "arg 7 0, head -1"},
		{"a node -1 has arguments", map[int]spot{7: {add, false, nil}, -1: {s, false, []int{-1}}}, 7, fits(1), "arg 7 0, head -1, arg 7 0, arg -1 0, head -1"},
	} {
		v := &graph{spots: x.spots}
		if got, e := code.Run(c, add, v, x.node); !sameFound(got, x.want) || e != api.OK {
			t.Errorf("%s: %v, %v", x.what, got, e)
		}
		if asked := strings.Join(v.asked, ", "); asked != x.asked {
			t.Errorf("%s: it was asked %s; want %s", x.what, asked, x.asked)
		}
	}
}

// P9.4: Entry says what is demanded, not the cases: symbols whose Entry is below 0 are not, those with any other are.
func TestRunDemandsByEntry(t *testing.T) {
	for _, x := range []struct {
		entry []int
		want  api.Found
	}{
		{[]int{0, 0}, demand(3, 0)}, {[]int{0, math.MaxInt}, demand(3, 0)}, {[]int{0, 99}, demand(3, 0)},
		{[]int{0, -1}, fits(9)}, {[]int{0, math.MinInt}, fits(9)}, {[]int{0}, fits(9)},
	} {
		c := api.Code{Entry: x.entry, Paths: [][]int{{0}}, Ins: []api.Ins{look(0), inCase(5, 0), byRule(9)}}
		for _, known := range []bool{false, true} {
			want := x.want
			if known {
				want = fits(9)
			}
			v := &graph{spots: map[int]spot{2: {7, false, []int{3}}, 3: {1, known, nil}}}
			if got, e := code.Run(c, 0, v, 2); !sameFound(got, want) || e != api.OK {
				t.Errorf("%v, %t: %v, %v", x.entry, known, got, e)
			}
		}
	}
}

// fickle is a view that tells another symbol, and another node, each time that it is asked.
type fickle struct{ times int }

func (x *fickle) Head(node int) (int, bool) {
	x.times++
	return x.times, false
}

func (x *fickle) Arg(node, n int) int {
	x.times++
	return x.times
}

// P9.4: it ends, whatever the view says: each look asks anew, and none is done twice.
func TestRunFickleView(t *testing.T) {
	c := api.Code{Entry: []int{0}, Paths: [][]int{{0, 0}}}
	for range 1000 {
		c.Ins = append(c.Ins, look(0), inCase(1, 0))
	}
	v := &fickle{}
	if got, e := code.Run(c, 0, v, 0); !sameFound(got, none()) || e != api.ErrCodeForm || v.times != 3000 {
		t.Errorf("%v, %v; asked %d times", got, e, v.times)
	}
	c.Ins = append(c.Ins, look(0), inCase(3003, 2002), byRule(1))
	if got, e := code.Run(c, 0, &fickle{}, 0); !sameFound(got, fits(1)) || e != api.OK {
		t.Errorf("%v, %v", got, e)
	}
}

// P9.4, R1: long codes, long runs of cases and long paths.
func TestRunLong(t *testing.T) {
	v := code.Over(signature(t), chain(k, 1998, h))
	long := api.Code{Entry: []int{0, -1, -1, 0}, Paths: [][]int{{0}, make([]int, 1999), make([]int, 100000)}}
	for range 300000 {
		long.Ins = append(long.Ins, look(0))
	}
	if got, e := code.Run(long, 0, v, 0); !sameFound(got, none()) || e != api.ErrCodeForm {
		t.Errorf("looks: %v, %v", got, e)
	}
	if got, e := code.Run(api.Code{Entry: long.Entry, Paths: long.Paths, Ins: []api.Ins{look(1)}}, 0, v, 0); !sameFound(got, demand(1999, make([]int, 1999)...)) || e != api.OK {
		t.Errorf("a long path: %d, %v", got.Node, e)
	}
	if got, e := code.Run(api.Code{Entry: long.Entry, Paths: long.Paths, Ins: []api.Ins{look(2), stuck()}}, 0, v, 0); !sameFound(got, rigid()) || e != api.OK {
		t.Errorf("a path beyond the term: %v, %v", got, e)
	}
	cases := []api.Ins{look(0)}
	for n := range 300000 {
		cases = append(cases, inCase(n+2, n))
	}
	long.Ins = append(cases, inCase(s, 300003), stuck(), byRule(4))
	if got, e := code.Run(long, 0, v, 0); !sameFound(got, fits(4)) || e != api.OK {
		t.Errorf("cases: %v, %v", got, e)
	}
}

// P9.4: the code of a Case alone, however deep: what is told of the Case is told of its code.
func TestRunDeep(t *testing.T) {
	c := leaf(7)
	for range 1<<16 - 10 {
		c = branch([]int{0}, kid(s, c))
	}
	ins, paths := code.Flat(c)
	v := code.Over(signature(t), term(t, "k(s(h))"))
	if got, e := code.Run(api.Code{Ins: ins, Paths: paths, Entry: []int{0}}, 0, v, 0); !sameFound(got, fits(7)) || e != api.OK {
		t.Errorf("%v, %v", got, e)
	}
}

// ran is what running from an index on comes to, word by word as P9.4 has it.
func ran(c api.Code, at int, v code.View, node int) (api.Found, api.Errno) {
	if at < 0 || at >= len(c.Ins) {
		return none(), api.ErrCodeForm
	}
	i := c.Ins[at]
	if i.Op == api.OpRule {
		return fits(i.A), api.OK
	}
	if i.Op == api.OpStuck {
		return rigid(), api.OK
	}
	if i.Op != api.OpLook || i.A < 0 || i.A >= len(c.Paths) {
		return none(), api.ErrCodeForm
	}
	x := node
	for _, n := range c.Paths[i.A] {
		x = v.Arg(x, n)
	}
	symbol, known := v.Head(x)
	behind := c.Ins[at+1:]
	if n := slices.IndexFunc(behind, func(i api.Ins) bool { return i.Op != api.OpCase }); n >= 0 {
		behind = behind[:n]
	}
	if n := slices.IndexFunc(behind, func(i api.Ins) bool { return i.A == symbol }); n >= 0 {
		if behind[n].B <= at+1+n {
			return none(), api.ErrCodeForm
		}
		return ran(c, behind[n].B, v, node)
	}
	if symbol >= 0 && symbol < len(c.Entry) && c.Entry[symbol] >= 0 && !known {
		return demand(x, c.Paths[i.A]...), api.OK
	}
	return ran(c, at+1+len(behind), v, node)
}

// grownCode is a Code that a seed's numbers choose, now of any shape, now the code of a Case.
func grownCode(r *rand.Rand) api.Code {
	var c api.Code
	for range r.Intn(5) {
		c.Entry = append(c.Entry, r.Intn(5)-2)
	}
	if r.Intn(3) == 0 {
		c.Ins, c.Paths = code.Flat(grownCase(r, 4))
		return c
	}
	for range r.Intn(4) {
		path := make([]int, r.Intn(3))
		for i := range path {
			path[i] = r.Intn(4) - 1
		}
		c.Paths = append(c.Paths, path)
	}
	for at := range r.Intn(14) {
		op := []int{api.OpLook, api.OpLook, api.OpLook, api.OpCase, api.OpCase, api.OpCase, api.OpCase, api.OpStuck, api.OpRule, 0, 5}[r.Intn(11)]
		i := api.Ins{Op: op, A: r.Intn(6) - 1, B: at + r.Intn(5)}
		c.Ins = append(c.Ins, i)
	}
	return c
}

// grownGraph is a view that a seed's numbers choose.
func grownGraph(r *rand.Rand) map[int]spot {
	l := map[int]spot{}
	for node := -1; node < 5; node++ {
		if r.Intn(5) == 0 {
			continue
		}
		x := spot{symbol: r.Intn(6) - 1, rigid: r.Intn(3) == 0}
		for range r.Intn(4) {
			x.args = append(x.args, r.Intn(7)-1)
		}
		l[node] = x
	}
	return l
}

// P9.4: what its words say, of many Codes and views: what is found, and what is asked on the way.
func TestRunByWords(t *testing.T) {
	random := rand.New(rand.NewSource(94))
	met := map[int]int{}
	for range 60000 {
		c, spots := grownCode(random), grownGraph(random)
		for symbol := -1; symbol <= len(c.Entry); symbol++ {
			v, w := &graph{spots: spots}, &graph{spots: spots}
			want, e := none(), api.ErrCodeSymbol
			if symbol >= 0 && symbol < len(c.Entry) && c.Entry[symbol] >= 0 {
				want, e = ran(c, c.Entry[symbol], w, 0)
			}
			got, f := code.Run(c, symbol, v, 0)
			if !sameFound(got, want) || e != f || !slices.Equal(v.asked, w.asked) {
				t.Fatalf("%v, %d over %v: %v, %v; want %v, %v", c, symbol, spots, got, f, want, e)
			}
			met[got.Kind*100+int(f)]++
		}
	}
	for _, kind := range []int{int(api.ErrCodeSymbol), int(api.ErrCodeForm), api.Fits * 100, api.Rigid * 100, api.Demand * 100} {
		if met[kind] < 1000 {
			t.Errorf("%v", met)
		}
	}
}
