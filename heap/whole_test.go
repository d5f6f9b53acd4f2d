package heap_test

import (
	"errors"
	"math"
	"math/rand"
	"reflect"
	"slices"
	"strings"
	"testing"

	"ropewalk/api"
	"ropewalk/heap"
)

// P11.1 to P11.8, R2, R3: whatever is done, in whatever order: a heap tells what the chapter says, no node is beneath itself, and what is refused changes nothing.
func TestWhateverIsDone(t *testing.T) {
	random := rand.New(rand.NewSource(11))
	met := map[string]int{}
	for range 300 {
		room := 1 + random.Intn(9)
		h, m := empty(t, room), &model{room: room}
		for range 60 {
			before := whole(t, h)
			what, got, want := doSomething(t, random, h, m)
			if got != want {
				t.Fatalf("%s: %v, not %v; of %s", what, got, want, before)
			}
			met[what+" "+got.Error()]++
			if whole(t, h) != m.whole() {
				t.Fatalf("%s: %s, not %s; of %s", what, whole(t, h), m.whole(), before)
			}
			if got != api.OK && whole(t, h) != before {
				t.Fatalf("%s: %v changes %s", what, got, before)
			}
			if l := told(t, h); ring(l) || h.Refill(l) != api.OK || whole(t, h) != m.whole() {
				t.Fatalf("%s: %s", what, shownList(l))
			}
		}
	}
	for _, kind := range []struct {
		what string
		l    []api.Errno
	}{
		{"make", []api.Errno{api.OK, api.ErrArg, api.ErrHeapNode, api.ErrHeapFull}},
		{"point", []api.Errno{api.OK, api.ErrHeapNode, api.ErrHeapRing}},
		{"mark", []api.Errno{api.OK, api.ErrArg, api.ErrHeapNode}},
		{"clear", []api.Errno{api.OK}},
		{"refill", []api.Errno{api.OK, api.ErrHeapFull, api.ErrHeapShape, api.ErrHeapRing}},
	} {
		for _, e := range kind.l {
			if n := met[kind.what+" "+e.Error()]; n < 20 {
				t.Errorf("%s %v was met %d times", kind.what, e, n)
			}
		}
	}
}

// doSomething does to a heap and to its model what a seed chooses: what it was, and what both answer.
func doSomething(t *testing.T, r *rand.Rand, h *heap.Heap, m *model) (string, api.Errno, api.Errno) {
	t.Helper()
	switch r.Intn(10) {
	case 0, 1, 2:
		symbol, args := r.Intn(20)-1, someNumbers(r, r.Intn(8), h.Used())
		a, got := h.Make(symbol, args...)
		b, want := m.make(symbol, args)
		if a != b {
			t.Fatalf("Make(%d, %v): %d, not %d", symbol, args, a, b)
		}
		return "make", got, want
	case 3, 4, 5:
		a, to := someNumber(r, h.Used()), someNumber(r, h.Used())
		return "point", h.Point(a, to), m.point(a, to)
	case 6, 7:
		a, mark := someNumber(r, h.Used()), r.Intn(6)-1
		return "mark", h.Mark(a, mark), m.mark(a, mark)
	case 8:
		h.Clear()
		m.clear()
		return "clear", api.OK, api.OK
	}
	l := someNodes(r, h.Room())
	return "refill", h.Refill(l), m.refill(l)
}

// P11.3, P11.4, P11.7, R1: 4000 nodes one beneath the other, by arguments, by indirections, by both.
func TestDeep(t *testing.T) {
	for what, node := range map[string]func(a int) api.Node{
		"arguments":    func(a int) api.Node { return app(1, a-1) },
		"indirections": func(a int) api.Node { return ind(a - 1) },
		"both":         func(a int) api.Node { return []api.Node{app(1, a-1), ind(a - 1)}[a%2] },
	} {
		l := []api.Node{app(0)}
		for a := 1; a < 4000; a++ {
			l = append(l, node(a))
		}
		for _, h := range []*heap.Heap{filled(t, 4000, l...), refilled(t, 4000, l...)} {
			is(t, what, h.Point(0, 3999), api.ErrHeapRing)
			is(t, what, h.Point(3998, 3999), api.ErrHeapRing)
			is(t, what, h.Point(3999, 0), api.OK)
			is(t, what, h.Point(0, 3999), api.ErrHeapRing)
			is(t, what, h.Point(0, 3998), api.ErrHeapRing)
			if a, e := h.Resolve(3999); a != 0 || e != api.OK {
				t.Errorf("%s: Resolve: %d, %v", what, a, e)
			}
			if a, e := h.Resolve(3998); what == "indirections" && (a != 0 || e != api.OK) {
				t.Errorf("%s: Resolve: %d, %v", what, a, e)
			}
		}
		l[0] = app(0, 3999)
		is(t, what, empty(t, 4000).Refill(l), api.ErrHeapRing)
		l[0] = ind(3999)
		is(t, what, empty(t, 4000).Refill(l), api.ErrHeapRing)
	}
}

// P11.4, P11.7, R1: a node that stands in more places than anybody can count is looked at all the same.
func TestShared(t *testing.T) {
	l := []api.Node{app(0)}
	for a := 1; a < 3999; a++ {
		l = append(l, app(1, a-1, a-1, a-1, a-1, a-1, a-1))
	}
	l = append(l, app(2))
	for _, h := range []*heap.Heap{filled(t, 4000, l...), refilled(t, 4000, l...)} {
		is(t, "Point(3999, 3998)", h.Point(3999, 3998), api.OK)
		is(t, "Point(0, 3999)", h.Point(0, 3999), api.ErrHeapRing)
		is(t, "Refill", h.Refill(told(t, h)), api.OK)
		is(t, "Point(0, 3999)", h.Point(0, 3999), api.ErrHeapRing)
	}
	slices.Reverse(l)
	for a := range l {
		for i := range l[a].Args {
			l[a].Args[i] = 3999 - l[a].Args[i]
		}
	}
	h := refilled(t, 4000, l...)
	is(t, "Point(3999, 1)", h.Point(3999, 1), api.ErrHeapRing)
	is(t, "Point(3999, 0)", h.Point(3999, 0), api.OK)
	l[3999] = ind(1)
	is(t, "Refill", h.Refill(l), api.ErrHeapRing)
}

// R1: a nil heap: ErrArg ahead of all else, or zero values.
func TestNilHeap(t *testing.T) {
	var h *heap.Heap
	if h.Room() != 0 || h.Used() != 0 {
		t.Errorf("Room %d, Used %d", h.Room(), h.Used())
	}
	h.Clear()
	for a, x := range h.All() {
		t.Errorf("All: %d, %s", a, shown(x))
	}
	for _, n := range []int{-1, 0, 1, 2, 3, math.MinInt, math.MaxInt} {
		if a, e := h.Make(n, n); a != 0 || e != api.ErrArg {
			t.Errorf("Make(%d, %d): %d, %v", n, n, a, e)
		}
		if x, e := h.At(n); shown(x) != shown(api.Node{}) || e != api.ErrArg {
			t.Errorf("At(%d): %s, %v", n, shown(x), e)
		}
		if a, e := h.Resolve(n); a != 0 || e != api.ErrArg {
			t.Errorf("Resolve(%d): %d, %v", n, a, e)
		}
		is(t, "Point", h.Point(n, n), api.ErrArg)
		is(t, "Mark", h.Mark(n, n), api.ErrArg)
	}
	if a, e := h.Make(1); a != 0 || e != api.ErrArg {
		t.Errorf("Make(1): %d, %v", a, e)
	}
	for _, l := range [][]api.Node{nil, {app(1)}, {app(-1)}, {ind(0)}, make([]api.Node, 5000)} {
		is(t, "Refill", h.Refill(l), api.ErrArg)
	}
}

// R1: a heap that New did not make has room for nothing.
func TestHandMadeHeap(t *testing.T) {
	h := &heap.Heap{}
	holds(t, h, 0)
	h.Clear()
	for _, c := range []struct {
		symbol int
		args   []int
		e      api.Errno
	}{{-1, nil, api.ErrArg}, {1, make([]int, 7), api.ErrArg}, {1, []int{0}, api.ErrHeapNode}, {1, nil, api.ErrHeapFull}} {
		if a, e := h.Make(c.symbol, c.args...); a != 0 || e != c.e {
			t.Errorf("Make(%d, %v): %d, %v", c.symbol, c.args, a, e)
		}
	}
	is(t, "Point", h.Point(0, 0), api.ErrHeapNode)
	is(t, "Mark", h.Mark(0, 0), api.ErrHeapNode)
	is(t, "Refill by none", h.Refill(nil), api.OK)
	is(t, "Refill", h.Refill([]api.Node{app(1)}), api.ErrHeapFull)
	holds(t, h, 0)
}

// R1: heaps that were copied by hand hang together, and nothing is promised of what they tell; but each call ends, and none panics.
func TestHeapCopiedByHand(t *testing.T) {
	random := rand.New(rand.NewSource(12))
	for range 300 {
		room := 1 + random.Intn(6)
		heaps := []*heap.Heap{empty(t, room)}
		for range 80 {
			h := heaps[random.Intn(len(heaps))]
			if random.Intn(10) == 0 {
				other := *h
				heaps = append(heaps, &other)
			}
			h.Make(1, someNumbers(random, random.Intn(3), h.Used())...)
			h.Point(someNumber(random, h.Used()), someNumber(random, h.Used()))
			h.Mark(someNumber(random, h.Used()), random.Intn(3))
			h.Resolve(someNumber(random, h.Used()))
			if random.Intn(8) == 0 {
				h.Refill(someNodes(random, room))
			}
			for a := range h.All() {
				h.Resolve(a)
			}
		}
	}
}

// spoil fills a list, its spare room too, with what stands nowhere else.
func spoil(l []int) {
	l = l[:cap(l)]
	for i := range l {
		l[i] = -7777
	}
}

// R4: what Make is handed is neither changed nor kept.
func TestMakeCopies(t *testing.T) {
	h := filled(t, 5, app(1), app(2))
	room := []int{0, 1, 1, 77, 78}
	args := room[:3]
	if a, e := h.Make(3, args...); a != 2 || e != api.OK {
		t.Fatalf("Make: %d, %v", a, e)
	}
	h.Make(4, room[:4]...)
	if !slices.Equal(room, []int{0, 1, 1, 77, 78}) {
		t.Errorf("Make changes %v", room)
	}
	spoil(room)
	holds(t, h, 5, app(1), app(2), app(3, 0, 1, 1))
	h.Make(4, 2)
	h.Point(2, 0)
	if !slices.Equal(room, slices.Repeat([]int{-7777}, 5)) {
		t.Errorf("a later call changes %v", room)
	}
}

// R4: what At gives out is new memory, spare room too: neither sees what is done to the other.
func TestAtCopies(t *testing.T) {
	for many := range 7 {
		args := slices.Repeat([]int{1, 0}, 3)[:many]
		h := filled(t, 4, app(1), app(2), app(3, args...), ind(2))
		one, _ := h.At(2)
		other, _ := h.At(2)
		spoil(one.Args)
		holds(t, h, 4, app(1), app(2), app(3, args...), ind(2))
		if shown(other) != shown(app(3, args...)) {
			t.Errorf("two answers share memory: %s", shown(other))
		}
		h.Mark(2, 2)
		h.Point(2, 0)
		h.Refill([]api.Node{app(9), app(9), app(9, 0, 0, 0, 0, 0, 0)})
		if shown(other) != shown(app(3, args...)) {
			t.Errorf("a later call changes an answer: %s", shown(other))
		}
	}
}

// R4: what All gives out is new memory, in each range anew.
func TestAllCopies(t *testing.T) {
	l := []api.Node{app(1), app(2, 0, 0), ind(1), app(3, 1, 2, 0)}
	h := filled(t, 4, l...)
	all := h.All()
	for range 2 {
		for a, x := range all {
			if shown(x) != shown(l[a]) {
				t.Errorf("at %d: %s", a, shown(x))
			}
			for _, y := range all {
				spoil(y.Args)
			}
			if shown(x) != shown(l[a]) {
				t.Errorf("two answers share memory at %d: %s", a, shown(x))
			}
			spoil(x.Args)
		}
		holds(t, h, 4, l...)
	}
	kept := told(t, h)
	h.Clear()
	h.Point(3, 0)
	h.Refill([]api.Node{app(9)})
	if shownList(kept) != shownList(l) {
		t.Errorf("a later call changes what was told: %s", shownList(kept))
	}
}

// R4: what Refill is handed is neither changed nor kept, where two nodes of it share a list neither.
func TestRefillCopies(t *testing.T) {
	shared := []int{0, 0, 77}
	list := append(make([]api.Node, 0, 6), app(1), app(2, shared[:2]...), marked(2, 3, shared[:2]...), ind(1))
	list[:5][4] = app(55, 1)
	want := []api.Node{app(1), app(2, 0, 0), marked(2, 3, 0, 0), ind(1)}
	h := refilled(t, 6, list...)
	h.Make(4, 3)
	h.Mark(0, 2)
	h.Point(2, 0)
	is(t, "Refill", h.Refill(list), api.OK)
	is(t, "Refill by what may not be", h.Refill(append(slices.Clone(list), ind(4))), api.ErrHeapRing)
	if shownList(list) != shownList(want) || shown(list[:6][4]) != shown(app(55, 1)) || shown(list[:6][5]) != shown(api.Node{}) || !slices.Equal(shared, []int{0, 0, 77}) {
		t.Errorf("it changes %s, %v", shownList(list[:6]), shared)
	}
	spoil(shared)
	for i := range list {
		list[i] = app(66)
	}
	holds(t, h, 6, want...)
	x, _ := h.At(1)
	spoil(x.Args)
	holds(t, h, 6, want...)
}

// R4, P11.8: nodes that All told, changed and handed back.
func TestRefillByWhatWasChanged(t *testing.T) {
	h := filled(t, 4, app(1), app(2, 0), ind(1))
	l := told(t, h)
	l[1].Args[0] = 2
	is(t, "Refill", h.Refill(l), api.ErrHeapRing)
	holds(t, h, 4, app(1), app(2, 0), ind(1))
	l[2] = marked(1, 7, 0)
	is(t, "Refill", h.Refill(l), api.OK)
	spoil(l[1].Args)
	holds(t, h, 4, app(1), app(2, 2), marked(1, 7, 0))
}

// R5: the same calls give the same answers each time, whatever was asked between them.
func TestSameEachTime(t *testing.T) {
	first := ""
	for round := range 20 {
		random := rand.New(rand.NewSource(13))
		h, m := empty(t, 9), &model{room: 9}
		text := ""
		for range 100 {
			what, e, _ := doSomething(t, random, h, m)
			for range round {
				h.Resolve(h.Used() - 1)
				h.At(0)
				h.Used()
				for range h.All() {
					break
				}
			}
			text += what + " " + e.Error() + " " + whole(t, h) + "\n"
		}
		if round > 0 && text != first {
			t.Fatalf("%s\n%s", text, first)
		}
		first = text
	}
}

// P11.8: nobody gets past the calls: a heap has the listed ones alone, and no field that others see.
func TestNothingElse(t *testing.T) {
	var names []string
	kind := reflect.TypeOf(&heap.Heap{})
	for i := range kind.NumMethod() {
		names = append(names, kind.Method(i).Name)
	}
	if got := strings.Join(names, " "); got != "All At Clear Make Mark Point Refill Resolve Room Used" {
		t.Errorf("its calls: %s", got)
	}
	for _, x := range reflect.VisibleFields(kind.Elem()) {
		if x.IsExported() {
			t.Errorf("its field %s", x.Name)
		}
	}
}

// Errors: the numbers are the document's, and found by errors.Is; so are the marks and the limits.
func TestErrorNumbers(t *testing.T) {
	for i, e := range []api.Errno{api.ErrHeapRoom, api.ErrHeapFull, api.ErrHeapNode, api.ErrHeapRing, api.ErrHeapShape} {
		if int(e) != 110+i || !errors.Is(error(e), api.Errno(110+i)) {
			t.Errorf("%v is not %d", e, 110+i)
		}
	}
	if api.OK != 0 || api.ErrArg != 1 || api.MaxRoom != 4000 || api.MaxArity != 6 || api.Fresh != 0 || api.Firm != 1 || api.Settled != 2 {
		t.Error("OK, ErrArg, the limits, or the marks")
	}
}
