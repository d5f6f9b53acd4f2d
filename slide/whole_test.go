package slide_test

import (
	"errors"
	"math"
	"math/rand"
	"slices"
	"testing"

	"ropewalk/api"
	"ropewalk/heap"
	"ropewalk/slide"
)

// nodesOfThree are all nodes that lead to some of three addresses, with at most two arguments; their symbols and marks tell which of the three they are.
func nodesOfThree(a int) []api.Node {
	l := []api.Node{marked(a, 5+a)}
	for b := range 3 {
		l = append(l, ind(b), marked(a, 5+a, b))
		for c := range 3 {
			l = append(l, marked(a, 5+a, b, c))
		}
	}
	return l
}

// P12.1 to P12.3: all heaps of three nodes, with all their roots up to two.
func TestAllHeapsOfThree(t *testing.T) {
	roots := [][]int{nil, {3}, {0, 3}, {-1, 0}}
	for a := range 3 {
		roots = append(roots, []int{a})
		for b := range 3 {
			roots = append(roots, []int{a, b})
		}
	}
	count := 0
	for _, x := range nodesOfThree(0) {
		for _, y := range nodesOfThree(1) {
			for _, z := range nodesOfThree(2) {
				l := []api.Node{x, y, z}
				if ringed(t, l) {
					continue
				}
				count++
				for _, r := range roots {
					agrees(t, 3+count%2, l, r)
				}
			}
		}
	}
	if count < 100 {
		t.Errorf("only %d heaps", count)
	}
}

// P12.1 to P12.3, R2, R3: heaps that a seed chooses, whose nodes lead forwards and backwards.
func TestByChance(t *testing.T) {
	random := rand.New(rand.NewSource(12))
	met := map[api.Errno]int{}
	none, all, some := 0, 0, 0
	for range 20000 {
		count := random.Intn(11)
		l := someNodes(random, count)
		e, went := agrees(t, max(1, count)+random.Intn(3), l, someRoots(random, count))
		met[e]++
		switch {
		case e != api.OK || count == 0:
		case went == 0:
			all++
		case went == count:
			none++
		default:
			some++
		}
		if t.Failed() {
			t.FailNow()
		}
	}
	if met[api.OK] < 1000 || met[api.ErrSlideRoots] < 500 || none < 500 || all < 500 || some < 5000 {
		t.Errorf("met %v, kept none %d, all %d, some %d", met, none, all, some)
	}
}

// P12.1 to P12.3: collections among all else that is done to a heap.
func TestWhateverIsDone(t *testing.T) {
	random := rand.New(rand.NewSource(13))
	collected := 0
	for range 300 {
		h := empty(t, 1+random.Intn(12))
		for range 80 {
			switch random.Intn(8) {
			case 0, 1, 2, 3:
				h.Make(random.Intn(9), address(random, h), address(random, h))
				h.Make(random.Intn(9))
			case 4, 5:
				h.Point(address(random, h), address(random, h))
			case 6:
				h.Mark(address(random, h), random.Intn(3))
			default:
				before, roots := model(nodesOf(t, h)), someRoots(random, h.Used())
				live, e := before.live(roots)
				lives(t, h, roots, live, e)
				if len(before) < 8 || random.Intn(2) > 0 { // not too often, or little is ever there
					continue
				}
				nodes, then, went, _ := before.collected(roots)
				if e != api.OK {
					refuses(t, h, roots, e)
					continue
				}
				collects(t, h, roots, then, went, nodes...)
				packed(t, h, then)
				collected++
			}
		}
	}
	if collected < 200 {
		t.Errorf("%d collections", collected)
	}
}

// address is one that a seed chooses; 0, if there is no node.
func address(r *rand.Rand, h *heap.Heap) int { return r.Intn(max(1, h.Used())) }

// turned is a list from its end to its beginning, each node leading to what it led to.
func turned(l []api.Node) []api.Node {
	var m []api.Node
	for _, x := range slices.Backward(l) {
		y := api.Node{Symbol: x.Symbol, Mark: x.Mark, Points: x.Points}
		if x.Points {
			y.To = len(l) - 1 - x.To
		}
		for _, b := range x.Args {
			y.Args = append(y.Args, len(l)-1-b)
		}
		m = append(m, y)
	}
	return m
}

// rising are the numbers from one on, up to another, by steps.
func rising(from, end, step int) []int {
	var l []int
	for n := from; n < end; n += step {
		l = append(l, n)
	}
	return l
}

// P12.1 to P12.3, R1: 4000 nodes one beneath the other by arguments, from either end.
func TestDeepByArguments(t *testing.T) {
	l := []api.Node{app(1)}
	for a := 1; a < 4000; a++ {
		l = append(l, marked(a%3, a, a-1))
	}
	h := refilled(t, 4000, l...)
	lives(t, h, []int{3999}, rising(0, 4000, 1), api.OK)
	collects(t, h, []int{3999}, []int{3999}, 0, l...)
	collects(t, h, []int{1999, 0}, []int{1999, 0}, 2000, l[:2000]...)
	packed(t, h, []int{1999})

	m := turned(l)
	h = refilled(t, 4000, m...)
	lives(t, h, []int{0}, rising(0, 4000, 1), api.OK)
	collects(t, h, []int{0}, []int{0}, 0, m...)
	collects(t, h, []int{2000}, []int{0}, 2000, turned(l[:2000])...)
	packed(t, h, []int{0})
}

// P12.1 to P12.3, R1: 3999 indirections one behind the other, each of them a root; and an argument of each of many.
func TestDeepByIndirections(t *testing.T) {
	l := []api.Node{marked(2, 7)}
	for a := 1; a < 4000; a++ {
		l = append(l, ind(a-1))
	}
	for _, m := range [][]api.Node{l, turned(l)} {
		only := slices.IndexFunc(m, func(x api.Node) bool { return !x.Points })
		h := refilled(t, 4000, m...)
		lives(t, h, []int{3999, 0}, []int{only}, api.OK)
		lives(t, h, rising(0, 4000, 1), []int{only}, api.OK)
		collects(t, h, rising(0, 4000, 1), make([]int, 4000), 3999, marked(2, 7))
	}
	l = l[:2000]
	for a := 2000; a < 4000; a++ {
		l = append(l, app(3, 1999, 1999, a-2000, a-1, 1999, 1999))
	}
	h := refilled(t, 4000, l...)
	lives(t, h, []int{3999}, append([]int{0}, rising(2000, 4000, 1)...), api.OK)
	want := []api.Node{marked(2, 7)}
	for n := 1; n <= 2000; n++ {
		want = append(want, app(3, 0, 0, 0, n-1, 0, 0))
	}
	collects(t, h, []int{3999}, []int{2000}, 1999, want...)
	packed(t, h, []int{2000})
}

// P12.1 to P12.3, R1: applications and indirections in turns.
func TestDeepByBoth(t *testing.T) {
	l := []api.Node{app(1)}
	want := []api.Node{app(1)}
	for a := 1; a < 4000; a++ {
		if a%2 == 1 {
			l = append(l, ind(a-1))
			continue
		}
		l = append(l, marked(2, a, a-1))
		want = append(want, marked(2, a, a/2-1))
	}
	h := refilled(t, 4000, l...)
	lives(t, h, []int{3999}, rising(0, 4000, 2), api.OK)
	collects(t, h, []int{3999, 2, 1}, []int{1999, 1, 0}, 2000, want...)
	packed(t, h, []int{1999})

	h = refilled(t, 4000, turned(l)...)
	lives(t, h, []int{0}, rising(1, 4000, 2), api.OK)
	collects(t, h, []int{0, 3999}, []int{0, 1999}, 2000, turned(want)...)
	packed(t, h, []int{0})
}

// P12.1, P12.2, R1: a node that stands in more places than anybody can count is kept once.
func TestShared(t *testing.T) {
	l := []api.Node{app(0)}
	for a := 1; a < 4000; a++ {
		l = append(l, app(1, slices.Repeat([]int{a - 1}, 6)...))
	}
	for top, m := range map[int][]api.Node{3999: l, 0: turned(l)} {
		h := refilled(t, 4000, m...)
		lives(t, h, []int{top, top}, rising(0, 4000, 1), api.OK)
		collects(t, h, []int{top, top}, []int{top, top}, 0, m...)
	}
}

// R1: a nil heap: ErrArg ahead of all else, with roots and without.
func TestNilHeap(t *testing.T) {
	for _, roots := range [][]int{nil, {}, {0}, {-1}, {1, 2}, {math.MinInt, math.MaxInt}} {
		if l, e := slide.Live(nil, roots); len(l) != 0 || e != api.ErrArg {
			t.Errorf("Live of %v: %v, %v", roots, l, e)
		}
		if l, went, e := slide.Collect(nil, roots); len(l) != 0 || went != 0 || e != api.ErrArg {
			t.Errorf("Collect of %v: %v, %d, %v", roots, l, went, e)
		}
	}
}

// R1: a heap that New did not make has no node.
func TestHandMadeHeap(t *testing.T) {
	h := &heap.Heap{}
	lives(t, h, nil, nil, api.OK)
	collects(t, h, nil, nil, 0)
	for _, a := range []int{-1, 0, 1, math.MaxInt} {
		refuses(t, h, []int{a}, api.ErrSlideRoots)
	}
}

// R1: heaps that were copied by hand hang together, and nothing is promised of what they keep; but each call ends, none panics, and what is refused changes nothing.
func TestHeapCopiedByHand(t *testing.T) {
	random := rand.New(rand.NewSource(14))
	astray := 0
	for range 2000 {
		room := 1 + random.Intn(7)
		heaps := []*heap.Heap{empty(t, room)}
		for range 60 {
			h := heaps[random.Intn(len(heaps))]
			if random.Intn(10) == 0 {
				other := *h
				heaps = append(heaps, &other)
			}
			h.Make(1, address(random, h), address(random, h))
			h.Make(2)
			h.Point(address(random, h), address(random, h))
			if random.Intn(8) == 0 {
				h.Refill(someNodes(random, random.Intn(room+1)))
			}
			roots, before := someRoots(random, h.Used()), nodesOf(t, h)
			if slices.ContainsFunc(before, func(x api.Node) bool { return slices.Max(append(x.Args, x.To)) >= len(before) }) {
				astray++
			}
			slide.Live(h, roots)
			holds(t, h, room, before...)
			if random.Intn(4) > 0 {
				continue
			}
			l, went, e := slide.Collect(h, roots)
			if e == api.OK {
				continue
			}
			if len(l) != 0 || went != 0 || e != api.ErrArg && e != api.ErrSlideRoots {
				t.Fatalf("Collect: %v, %d, %v", l, went, e)
			}
			holds(t, h, room, before...)
		}
	}
	if astray < 300 {
		t.Errorf("%d heaps had nodes that lead where they have none", astray)
	}
}

// spoil fills a list, its spare room too, with what stands nowhere else.
func spoil(l []int) {
	l = l[:cap(l)]
	for i := range l {
		l[i] = -7777
	}
}

// R4: the roots that are handed in are neither changed nor kept, their spare room included.
func TestRootsStay(t *testing.T) {
	room := []int{5, 2, 5, 77, 78, 79, 80, 81}
	roots := room[:3]
	h := example(t)
	asked := func(what string) {
		t.Helper()
		if !slices.Equal(room, []int{5, 2, 5, 77, 78, 79, 80, 81}) {
			t.Fatalf("%s changes %v", what, room)
		}
	}
	slide.Live(h, roots)
	asked("Live")
	then, _, _ := slide.Collect(h, roots)
	asked("Collect")
	slide.Collect(h, room[:4])
	asked("a Collect that is refused")
	slide.Collect(h, then)
	asked("another Collect")
	before := nodesOf(t, h)
	spoil(room)
	holds(t, h, 6, before...)
	if !slices.Equal(then, []int{4, 2, 4}) {
		t.Errorf("the answer shares memory with the roots: %v", then)
	}
}

// R4: what is answered is new memory, spare room too, where nothing was moved as well.
func TestAnswersAreNew(t *testing.T) {
	l := []api.Node{app(1), app(2, 0), marked(1, 3, 1, 0)}
	for _, roots := range [][]int{{2}, {2, 1, 0}, {0, 1, 2}, {2, 2}} {
		h := refilled(t, 3, l...)
		one, _ := slide.Live(h, roots)
		other, _ := slide.Live(h, roots)
		spoil(one)
		if !slices.Equal(other, []int{0, 1, 2}) {
			t.Errorf("two answers of Live share memory: %v", other)
		}
		spoil(other)
		holds(t, h, 3, l...)
		first := slices.Clone(roots)
		then, _, _ := slide.Collect(h, roots)
		again, _, _ := slide.Collect(h, roots)
		spoil(then)
		if !slices.Equal(again, first) || !slices.Equal(roots, first) {
			t.Errorf("answers of Collect share memory: %v, %v", again, roots)
		}
		spoil(again)
		holds(t, h, 3, l...)
		h.Refill(nil)
	}
}

// R4: later calls change nothing that was answered.
func TestAnswersStay(t *testing.T) {
	h := example(t)
	live, _ := slide.Live(h, []int{5})
	then, _, _ := slide.Collect(h, []int{5, 2})
	slide.Collect(h, []int{1})
	slide.Live(h, []int{1, 0})
	slide.Collect(h, nil)
	h.Make(3)
	if !slices.Equal(live, []int{0, 1, 2, 3, 5}) || !slices.Equal(then, []int{4, 2}) {
		t.Errorf("%v, %v", live, then)
	}
}

// R4: no two nodes share what they have behind a Collect, and none shares it with what the heap told ahead of it.
func TestNodesAreNew(t *testing.T) {
	h := example(t)
	before := nodesOf(t, h)
	slide.Collect(h, []int{5})
	want := []api.Node{app(1), app(2, 0), app(1), app(3, 1, 2), marked(1, 4, 3)}
	holds(t, h, 6, want...)
	for _, x := range before {
		spoil(x.Args)
	}
	holds(t, h, 6, want...)
	for a := range want {
		x, _ := h.At(a)
		spoil(x.Args)
		holds(t, h, 6, want...)
	}
}

// R4: Collect within a range over the heap: the range tells what was there when it began.
func TestCollectWithinRange(t *testing.T) {
	h := example(t)
	before := nodesOf(t, h)
	var told []api.Node
	for a, x := range h.All() {
		if a == 0 {
			slide.Collect(h, []int{1})
		}
		told = append(told, x)
	}
	if shownList(told) != shownList(before) {
		t.Errorf("the range tells %s", shownList(told))
	}
	holds(t, h, 6, app(1), app(2, 0))
}

// R5: the same calls give the same answers each time; so do heaps that came to the same nodes by other ways.
func TestSameEachTime(t *testing.T) {
	one := example(t)
	other := empty(t, 6)
	for _, x := range [][]int{{1}, {2, 0}, {1}, {3, 1, 2}, {9}, {4, 4}} {
		other.Make(x[0], x[1:]...)
	}
	other.Point(4, 3)
	other.Mark(5, api.Firm)
	other.Mark(0, api.Settled)
	other.Mark(0, api.Fresh)
	for range 20 {
		for _, h := range []*heap.Heap{one, other} {
			lives(t, h, []int{5, 4}, []int{0, 1, 2, 3, 5}, api.OK)
			refuses(t, h, []int{5, 6}, api.ErrSlideRoots)
		}
	}
	for _, h := range []*heap.Heap{one, other} {
		collects(t, h, []int{5, 4}, []int{4, 3}, 1, app(1), app(2, 0), app(1), app(3, 1, 2), marked(1, 4, 3))
	}
	// One heap's collections are not seen in another one.
	slide.Collect(one, nil)
	collects(t, other, []int{1}, []int{1}, 3, app(1), app(2, 0))
}

// Errors: the number is the document's, and found by errors.Is.
func TestErrorNumbers(t *testing.T) {
	if api.OK != 0 || api.ErrArg != 1 || api.ErrSlideRoots != 120 {
		t.Error("OK, ErrArg or ErrSlideRoots")
	}
	_, e := slide.Live(example(t), []int{6})
	if !errors.Is(error(e), api.Errno(120)) || errors.Is(error(e), api.ErrArg) {
		t.Errorf("%v", e)
	}
}
