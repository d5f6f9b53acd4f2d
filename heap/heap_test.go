package heap_test

import (
	"math"
	"slices"
	"testing"

	"ropewalk/api"
	"ropewalk/heap"
)

// P11.1: room for 1 to 4000 nodes, and for no others.
func TestNew(t *testing.T) {
	for _, room := range []int{0, -1, 4001, 4002, -4000, math.MinInt, math.MaxInt} {
		if h, e := heap.New(room); h != nil || e != api.ErrHeapRoom {
			t.Errorf("New(%d): %v, %v", room, h, e)
		}
	}
	for _, room := range []int{1, 2, 3, 3999, 4000} {
		h := empty(t, room)
		holds(t, h, room)
		if h.Room() != room || h.Used() != 0 {
			t.Errorf("New(%d): Room %d, Used %d", room, h.Room(), h.Used())
		}
	}
	one, other := empty(t, 3), empty(t, 3)
	one.Make(5)
	holds(t, other, 3)
}

// P11.1, P11.2: just so many nodes as there is room for; Used is the next one's address; Room stays.
func TestRoom(t *testing.T) {
	for _, room := range []int{1, 2, 3, 17, 4000} {
		h := empty(t, room)
		for n := range room {
			if h.Used() != n || h.Room() != room {
				t.Fatalf("Used %d, Room %d; not %d, %d", h.Used(), h.Room(), n, room)
			}
			if a, e := h.Make(n); a != n || e != api.OK {
				t.Fatalf("Make of the node %d of %d: %d, %v", n, room, a, e)
			}
		}
		for range 2 {
			if a, e := h.Make(1); a != 0 || e != api.ErrHeapFull {
				t.Errorf("Make in a full one: %d, %v", a, e)
			}
		}
		for n := range room {
			if x, e := h.At(n); shown(x) != shown(app(n)) || e != api.OK {
				t.Fatalf("At(%d): %s, %v", n, shown(x), e)
			}
		}
		if h.Used() != room || h.Room() != room {
			t.Errorf("Used %d, Room %d; not %d", h.Used(), h.Room(), room)
		}
	}
}

// The chapter's examples, one behind the other.
func TestExamples(t *testing.T) {
	h := empty(t, 3)
	for _, c := range []struct {
		symbol int
		args   []int
		a      int
		e      api.Errno
	}{{5, nil, 0, api.OK}, {7, []int{0, 0}, 1, api.OK}, {8, []int{2}, 0, api.ErrHeapNode}, {8, []int{1}, 2, api.OK}, {5, nil, 0, api.ErrHeapFull}} {
		if a, e := h.Make(c.symbol, c.args...); a != c.a || e != c.e {
			t.Errorf("Make(%d, %v): %d, %v", c.symbol, c.args, a, e)
		}
	}
	holds(t, h, 3, app(5), app(7, 0, 0), app(8, 1))
	is(t, "Point(0, 2)", h.Point(0, 2), api.ErrHeapRing)
	is(t, "Point(1, 1)", h.Point(1, 1), api.ErrHeapRing)
	is(t, "Point(1, 0)", h.Point(1, 0), api.OK)
	holds(t, h, 3, app(5), ind(0), app(8, 1))
	is(t, "Mark(0, 3)", h.Mark(0, 3), api.ErrArg)
	is(t, "Mark(1, 1)", h.Mark(1, 1), api.ErrHeapNode)
	is(t, "Mark(2, 2)", h.Mark(2, 2), api.OK)
	holds(t, h, 3, app(5), ind(0), marked(2, 8, 1))
	h.Clear()
	holds(t, h, 3, app(5), ind(0), app(8, 1))
	is(t, "Refill", h.Refill([]api.Node{app(1, 1), ind(0)}), api.ErrHeapRing)
	is(t, "Refill", h.Refill([]api.Node{app(1, 2), app(1)}), api.ErrHeapShape)
	is(t, "Refill", h.Refill([]api.Node{{Points: true, Mark: 1}}), api.ErrHeapShape)
	holds(t, h, 3, app(5), ind(0), app(8, 1))
	is(t, "Refill", h.Refill([]api.Node{app(1, 1), app(2)}), api.OK)
	holds(t, h, 3, app(1, 1), app(2))
}

// P11.2: no argument to six, seven and more; symbols from 0 on, whatever their numbers.
func TestMake(t *testing.T) {
	h := empty(t, 40)
	want := []api.Node{app(0), app(math.MaxInt)}
	h.Make(0)
	h.Make(math.MaxInt)
	for many := range 7 {
		args := slices.Repeat([]int{1, 0}, 3)[:many]
		if a, e := h.Make(many, args...); a != many+2 || e != api.OK {
			t.Errorf("%d args: %d, %v", many, a, e)
		}
		want = append(want, app(many, args...))
	}
	for _, many := range []int{7, 8, 1000} {
		if a, e := h.Make(3, make([]int, many)...); a != 0 || e != api.ErrArg {
			t.Errorf("%d args: %d, %v", many, a, e)
		}
	}
	for _, symbol := range []int{-1, -2, math.MinInt} {
		if a, e := h.Make(symbol, 0); a != 0 || e != api.ErrArg {
			t.Errorf("the symbol %d: %d, %v", symbol, a, e)
		}
	}
	for _, arg := range []int{-1, 9, 10, 39, 40, math.MinInt, math.MaxInt} {
		for at := range 6 {
			args := make([]int, 6)
			args[at] = arg
			if a, e := h.Make(3, args...); a != 0 || e != api.ErrHeapNode {
				t.Errorf("args %v: %d, %v", args, a, e)
			}
		}
	}
	holds(t, h, 40, want...)
}

// P11.2: an application may have an indirection as its argument: its address stays.
func TestMakeOverIndirections(t *testing.T) {
	h := filled(t, 4, app(1), app(2), ind(0))
	if a, e := h.Make(3, 2, 1); a != 3 || e != api.OK {
		t.Errorf("Make: %d, %v", a, e)
	}
	holds(t, h, 4, app(1), app(2), ind(0), app(3, 2, 1))
}

// P11.2, R2: which error is told first.
func TestMakeErrorsInOrder(t *testing.T) {
	full := filled(t, 2, app(1), app(2, 0))
	for _, c := range []struct {
		what   string
		symbol int
		args   []int
		e      api.Errno
	}{
		{"symbol, args, node, full", -1, []int{9, 9, 9, 9, 9, 9, 9}, api.ErrArg},
		{"symbol, node, full", -1, []int{2}, api.ErrArg},
		{"symbol, full", -1, nil, api.ErrArg},
		{"args, node, full", 1, []int{0, 0, 0, 0, 0, 0, -1}, api.ErrArg},
		{"args, full", 1, make([]int, 7), api.ErrArg},
		{"node, full", 1, []int{0, 2}, api.ErrHeapNode},
		{"full", 1, []int{0, 1}, api.ErrHeapFull},
	} {
		if a, e := full.Make(c.symbol, c.args...); a != 0 || e != c.e {
			t.Errorf("%s: %d, %v", c.what, a, e)
		}
	}
	holds(t, full, 2, app(1), app(2, 0))
}

// outside are numbers that are no addresses where there are so many nodes.
func outside(count int) []int {
	return []int{-1, count, count + 1, -count, 3999, 4000, math.MinInt, math.MaxInt}
}

// P11.3: nodes by their addresses; below 0 and at Used there are none.
func TestAt(t *testing.T) {
	l := []api.Node{app(5), marked(1, 7, 0, 0), ind(1), marked(2, 8, 2, 1, 0, 0, 1, 2)}
	h := filled(t, 10, l...)
	for a, want := range l {
		if x, e := h.At(a); shown(x) != shown(want) || e != api.OK {
			t.Errorf("At(%d): %s, %v", a, shown(x), e)
		}
	}
	for _, a := range outside(4) {
		if x, e := h.At(a); shown(x) != shown(api.Node{}) || e != api.ErrHeapNode {
			t.Errorf("At(%d): %s, %v", a, shown(x), e)
		}
		if b, e := h.Resolve(a); b != 0 || e != api.ErrHeapNode {
			t.Errorf("Resolve(%d): %d, %v", a, b, e)
		}
	}
	if x, e := empty(t, 1).At(0); shown(x) != shown(api.Node{}) || e != api.ErrHeapNode {
		t.Errorf("At(0) of none: %s, %v", shown(x), e)
	}
}

// P11.3: an indirection is what the node is to which it points, however many there are; and each of them stays as it is.
func TestResolve(t *testing.T) {
	l := []api.Node{app(5), ind(0), ind(1), app(6, 2), ind(5), ind(3), ind(4)}
	h := filled(t, 7, l...)
	for a, want := range []int{0, 0, 0, 3, 3, 3, 3} {
		for range 2 {
			if b, e := h.Resolve(a); b != want || e != api.OK {
				t.Errorf("Resolve(%d): %d, %v", a, b, e)
			}
		}
	}
	holds(t, h, 7, l...)
}

// P11.4: addresses that are none, of the one and of the other, ahead of rings.
func TestPointNoNode(t *testing.T) {
	l := []api.Node{app(1), app(2, 0)}
	h := filled(t, 10, l...)
	for _, n := range outside(2) {
		is(t, "Point of none", h.Point(n, 0), api.ErrHeapNode)
		is(t, "Point to none", h.Point(0, n), api.ErrHeapNode)
		is(t, "Point of none to itself", h.Point(n, n), api.ErrHeapNode)
	}
	holds(t, h, 10, l...)
}

// P11.4: of a node to itself, and to what it stands beneath: by arguments, by indirections, by both; near and far.
func TestPointRing(t *testing.T) {
	l := []api.Node{
		app(1),             // 0
		app(2, 0),          // 1: 0 by an argument
		app(3, 1, 1),       // 2: by arguments of arguments
		ind(0),             // 3: by an indirection
		ind(3),             // 4: by indirections
		app(4, 4),          // 5: by an argument, then by indirections
		ind(5),             // 6: by both, in turns
		app(5, 6, 6),       // 7
		app(6),             // 8: not at all
		app(7, 8, 8, 8, 0), // 9: by the last argument alone
	}
	h := filled(t, 10, l...)
	for _, to := range []int{0, 1, 2, 3, 4, 5, 6, 7, 9} {
		is(t, "Point(0, ..)", h.Point(0, to), api.ErrHeapRing)
	}
	for a := range l {
		is(t, "Point to itself", h.Point(a, a), api.ErrHeapRing)
	}
	for _, c := range [][2]int{{1, 2}, {3, 4}, {3, 5}, {3, 6}, {3, 7}, {4, 5}, {4, 7}, {5, 6}, {5, 7}, {6, 7}, {8, 9}} {
		is(t, "Point", h.Point(c[0], c[1]), api.ErrHeapRing)
	}
	holds(t, h, 10, l...)
}

// P11.4: to what it does not stand beneath: to what stands beneath itself, to what stands elsewhere, to an indirection; once more, too.
func TestPoint(t *testing.T) {
	base := []api.Node{app(1), app(2, 0), app(3, 1), app(4), ind(3), app(6, 2, 4)}
	for _, c := range [][2]int{{1, 0}, {2, 0}, {2, 1}, {5, 0}, {5, 2}, {5, 4}, {5, 3}, {0, 3}, {0, 4}, {3, 2}, {4, 0}, {4, 2}, {4, 3}, {2, 4}} {
		h := filled(t, 6, base...)
		is(t, "Mark", h.Mark(3, 1), api.OK)
		want := slices.Clone(base)
		want[3].Mark = 1
		want[c[0]] = ind(c[1])
		is(t, "Point", h.Point(c[0], c[1]), api.OK)
		holds(t, h, 6, want...)
	}
	// What pointed there points there still, and is what that is then.
	h := filled(t, 4, app(1), marked(2, 2), ind(1), app(3, 2))
	is(t, "Point", h.Point(1, 0), api.OK)
	holds(t, h, 4, app(1), ind(0), ind(1), app(3, 2))
	is(t, "Point", h.Point(0, 3), api.ErrHeapRing)
	is(t, "Point", h.Point(2, 0), api.OK)
	holds(t, h, 4, app(1), ind(0), ind(0), app(3, 2))
}

// P11.4: a ring is asked for by what stands there now: what an indirection took away leads nowhere any more.
func TestPointByWhatIs(t *testing.T) {
	h := filled(t, 4, app(1), app(2, 0), app(3), app(4, 1))
	is(t, "Point(0, 1)", h.Point(0, 1), api.ErrHeapRing)
	is(t, "Point(1, 2)", h.Point(1, 2), api.OK)
	is(t, "Point(0, 1)", h.Point(0, 1), api.OK)
	is(t, "Point(2, 0)", h.Point(2, 0), api.ErrHeapRing)
	is(t, "Point(2, 3)", h.Point(2, 3), api.ErrHeapRing)
	holds(t, h, 4, ind(1), ind(2), app(3), app(4, 1))
}

// P11.5: marks 0 to 2 of applications; of no other address and no other number, the address first.
func TestMark(t *testing.T) {
	h := filled(t, 10, app(5), app(7, 0, 0), ind(1))
	for _, mark := range []int{0, 1, 2, 1, 0, 2, 2} {
		is(t, "Mark", h.Mark(1, mark), api.OK)
		holds(t, h, 10, app(5), marked(mark, 7, 0, 0), ind(1))
	}
	for _, mark := range []int{-1, 3, 4, math.MinInt, math.MaxInt} {
		is(t, "Mark by no mark", h.Mark(1, mark), api.ErrArg)
		is(t, "Mark of an indirection by no mark", h.Mark(2, mark), api.ErrHeapNode)
		is(t, "Mark of none by no mark", h.Mark(3, mark), api.ErrHeapNode)
	}
	for _, mark := range []int{0, 1, 2} {
		is(t, "Mark of an indirection", h.Mark(2, mark), api.ErrHeapNode)
		for _, a := range outside(3) {
			is(t, "Mark of none", h.Mark(a, mark), api.ErrHeapNode)
		}
	}
	holds(t, h, 10, app(5), marked(2, 7, 0, 0), ind(1))
}

// P11.2, P11.4, P11.5: a new application is Fresh, and of one that became an indirection no mark is left.
func TestMarksComeAndGo(t *testing.T) {
	h := filled(t, 3, marked(2, 5), marked(1, 7, 0))
	h.Make(8, 1)
	is(t, "Point", h.Point(1, 0), api.OK)
	holds(t, h, 3, marked(2, 5), ind(0), app(8, 1))
	// The mark stays with the node that an indirection leads to.
	is(t, "Mark", h.Mark(0, 1), api.OK)
	holds(t, h, 3, marked(1, 5), ind(0), app(8, 1))
}

// P11.5: Clear takes all marks, and nothing else.
func TestClear(t *testing.T) {
	h := filled(t, 6, marked(2, 5), marked(1, 7, 0, 0), ind(1), app(8, 2), marked(2, 9, 3))
	for range 2 {
		h.Clear()
		holds(t, h, 6, app(5), app(7, 0, 0), ind(1), app(8, 2), app(9, 3))
	}
	is(t, "Mark", h.Mark(4, 1), api.OK)
	holds(t, h, 6, app(5), app(7, 0, 0), ind(1), app(8, 2), marked(1, 9, 3))
	none := empty(t, 2)
	none.Clear()
	holds(t, none, 2)
}
