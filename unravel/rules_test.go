package unravel_test

import (
	"errors"
	"math"
	"math/rand"
	"slices"
	"testing"

	"ropewalk/api"
	"ropewalk/heap"
	"ropewalk/sig"
	"ropewalk/unravel"
)

// R1: a nil heap: ErrArg ahead of all else; and so a nil signature, for the calls that are handed one.
func TestNil(t *testing.T) {
	full := example(t)
	for _, a := range []int{math.MinInt, -1, 0, 4, 5, math.MaxInt} {
		q := asked{t, signature(t), nil}
		q.noSize(a, api.ErrArg)
		q.noTerm(a, noArg)
		for _, node := range []int{-1, 0, 4, 5} {
			q.noCopies(a, node, noArg)
		}
		q.noText(a, noArg)
		asked{t, nil, nil}.noText(a, noArg)
		asked{t, nil, full.h}.noText(a, noArg)
	}
}

// R1: a heap and a signature that New did not make have nothing in them.
func TestHandMade(t *testing.T) {
	q := asked{t, signature(t), &heap.Heap{}}
	for _, a := range outside(0) {
		q.none(a)
	}
	q = asked{t, &sig.Sig{}, example(t).h}
	for a := range 5 {
		q.noText(a, noNode)
	}
	q.size(4, 7)
	q.g.Add(api.Symbol{Name: "c"})
	q.sharing(0, "c")
	q.print(0, 1, "c")
	q.noText(1, noNode)
}

// R1: heaps that were copied by hand hang together, and nothing is promised of what they have; but each call ends, none panics, and none changes anything.
func TestHeapCopiedByHand(t *testing.T) {
	random := rand.New(rand.NewSource(22))
	g := signature(t)
	refused := 0
	for range 2000 {
		room := 1 + random.Intn(7)
		h, _ := heap.New(room)
		heaps := []*heap.Heap{h}
		for range 60 {
			h := heaps[random.Intn(len(heaps))]
			if random.Intn(10) == 0 {
				other := *h
				heaps = append(heaps, &other)
			}
			h.Make(p, address(random, h), address(random, h))
			h.Make(z)
			h.Point(address(random, h), address(random, h))
			if random.Intn(8) == 0 {
				h.Refill(someNodes(random, random.Intn(room+1), true))
			}
			if !asksAll(asked{t, g, h}, random) {
				refused++
			}
		}
	}
	if refused < 1000 {
		t.Errorf("%d nodes were refused", refused)
	}
}

// asksAll asks something of each call, whatever it answers: whether it was answered.
func asksAll(q asked, random *rand.Rand) bool {
	ok := false
	q.stays(func() {
		a, node := address(random, q.h), address(random, q.h)
		n, e := unravel.Size(q.h, a)
		unravel.Term(q.h, a)
		unravel.Copies(q.h, a, node)
		unravel.Shared(q.h, a)
		unravel.Sharing(q.g, q.h, a)
		unravel.Print(q.g, q.h, a, random.Intn(20))
		ok = n > 0 && e == api.OK
	})
	return ok
}

// R1: a node that stands beneath itself, as it can come to be by a copy that was made by hand alone: all is answered.
func TestRing(t *testing.T) {
	q := ask(t, app(z), app(s, 0))
	other := *q.h
	q.h.Make(z)      // 2
	q.h.Point(1, 2)  // so 1 is 2,
	other.Make(s, 1) // and 2 has 1 as its argument
	for _, a := range []int{1, 2} {
		q.noSize(a, api.ErrUnravelNode)
		q.noTerm(a, noNode)
		q.noCopies(a, 0, noNode)
		q.noCopies(a, a, noNode)
		q.noText(a, noNode)
	}
	q.size(0, 1)
	q.copies(0, 2)
}

// R1: a node that leads to one that is lacking, as it can come to be in the same way.
func TestAstray(t *testing.T) {
	q := ask(t, app(z), app(s, 0), app(s, 1))
	other := *q.h
	q.h.Make(z)     // 3, which the copy lacks
	q.h.Point(1, 3) // but in it, too, 1 is 3 now
	q.h = &other
	for _, a := range []int{1, 2} {
		q.noSize(a, api.ErrUnravelNode)
		q.noTerm(a, noNode)
		q.noCopies(a, 0, noNode)
		q.noText(a, noNode)
	}
	q.term(0, z)
	q.copies(0, 1)
}

// spoil fills a list, its spare room too, with what stands nowhere else.
func spoil(l []int) {
	l = l[:cap(l)]
	for i := range l {
		l[i] = -7777
	}
}

// R4: what is answered is new memory, spare room too: it shares none with another answer, nor with the heap.
func TestAnswersAreNew(t *testing.T) {
	q := example(t)
	for a := range 5 {
		one, _ := unravel.Term(q.h, a)
		other, _ := unravel.Term(q.h, a)
		want := slices.Clone(other)
		q.stays(func() { spoil(one) })
		if !slices.Equal(other, want) {
			t.Errorf("two answers of Term share memory: %v", other)
		}
		q.term(a, want...)
		for node := range 5 {
			one, _ := unravel.Copies(q.h, a, node)
			other, _ := unravel.Copies(q.h, a, node)
			want := slices.Clone(other)
			q.stays(func() { spoil(one) })
			if !slices.Equal(other, want) {
				t.Errorf("two answers of Copies share memory: %v", other)
			}
			q.copies(a, node, want...)
		}
		first, _ := unravel.Shared(q.h, a)
		second, _ := unravel.Shared(q.h, a)
		want = slices.Clone(second)
		q.stays(func() { spoil(first) })
		if !slices.Equal(second, want) {
			t.Errorf("two answers of Shared share memory: %v", second)
		}
		q.shared(a, want...)
	}
}

// R4: later calls change nothing that was answered.
func TestAnswersStay(t *testing.T) {
	q := example(t)
	x, _ := unravel.Term(q.h, 4)
	l, _ := unravel.Copies(q.h, 4, 0)
	shared, _ := unravel.Shared(q.h, 4)
	for a := range 5 {
		unravel.Term(q.h, a)
		unravel.Copies(q.h, a, 0)
		unravel.Shared(q.h, a)
	}
	q.h.Point(1, 0)
	unravel.Term(q.h, 4)
	unravel.Copies(q.h, 4, 0)
	unravel.Shared(q.h, 4)
	q.h.Refill(nil)
	if !slices.Equal(x, api.Term{p, p, s, z, s, z, z}) || !slices.Equal(l, []int{3, 5, 6}) || !slices.Equal(shared, []int{0, 1}) {
		t.Errorf("%v, %v, %v", x, l, shared)
	}
}

// P16.6, R3: the heap is asked anew each time: nothing is kept of what it was.
func TestNothingIsKept(t *testing.T) {
	q := example(t)
	q.sharing(4, "p(p(1:s(2:z),*1),*2)")
	q.h.Point(1, 0)
	q.size(4, 5)
	q.term(4, p, p, z, z, z)
	q.copies(4, 1, 2, 3, 4)
	q.shared(4, 0)
	q.sharing(4, "p(p(1:z,*1),*1)")
	q.print(4, 5, "p(p(z,z),z)")
	q.h.Refill([]api.Node{app(s, 1), app(r)})
	q.term(0, s, r)
	q.print(0, 2, "s(r)")
	q.none(2)
}

// P16.6: calls within a range over the heap, which change nothing that it tells.
func TestWithinRange(t *testing.T) {
	q := example(t)
	before := nodesOf(q.h)
	var now model
	for a, x := range q.h.All() {
		q.copies(4, a, before.copies(4, a)...)
		q.size(a, len(before.stand(a)))
		now = append(now, x)
	}
	if !slices.EqualFunc(now, before, same) {
		t.Errorf("%s was %s", shownList(now), shownList(before))
	}
}

// R5: the same calls give the same answers each time; so do heaps that came to the same nodes by other ways.
func TestSameEachTime(t *testing.T) {
	one := example(t)
	other := ask(t)
	other.h, _ = heap.New(8)
	for _, x := range [][]int{{z}, {s, 0}, {p, 1, 1}, {r}, {p, 3, 0}} {
		other.h.Make(x[0], x[1:]...)
	}
	other.h.Point(3, 2)
	l := great(2, 400)
	many := ask(t, l...)
	for range 30 {
		for _, q := range []asked{one, other} {
			q.term(4, p, p, s, z, s, z, z)
			q.copies(4, 0, 3, 5, 6)
			q.shared(4, 0, 1)
			q.sharing(4, "p(p(1:s(2:z),*1),*2)")
			q.none(5)
		}
		many.shared(399, rising(0, 399)...)
		many.sharing(399, greatText("p", 2, 399))
	}
}

// R5: one that is wrong among many is found each time, wherever it stands.
func TestOneIsWrong(t *testing.T) {
	for _, at := range []int{0, 1, 57, 198, 199} {
		l := tower(199)
		if at == 0 {
			l[0] = app(s + 20)
		} else {
			l[at].Symbol = p
		}
		q := ask(t, l...)
		for a := range 200 {
			if a >= at {
				q.noText(a, noNode)
			}
		}
		if at > 1 {
			q.sharing(at-1, plainOf(t, q, at-1))
		}
	}
}

// Errors: numbers are the document's; each answer is a Fault of its own, found by errors.Is and errors.As.
func TestErrors(t *testing.T) {
	if api.OK != 0 || api.ErrArg != 1 || api.ErrUnravelNode != 160 || api.ErrUnravelLong != 161 {
		t.Error("OK, ErrArg, ErrUnravelNode or ErrUnravelLong")
	}
	q := ask(t, append(great(2, 20), app(lacking))...)
	for _, c := range []struct {
		n    api.Errno
		call func() error
	}{
		{1, func() error { _, err := unravel.Term(nil, 0); return err }},
		{1, func() error { _, err := unravel.Copies(nil, 0, 0); return err }},
		{1, func() error { _, err := unravel.Sharing(nil, q.h, 0); return err }},
		{1, func() error { _, err := unravel.Sharing(q.g, nil, 0); return err }},
		{1, func() error { _, err := unravel.Print(nil, q.h, 0, 1); return err }},
		{1, func() error { _, err := unravel.Print(q.g, nil, 0, 1); return err }},
		{160, func() error { _, err := unravel.Term(q.h, 21); return err }},
		{160, func() error { _, err := unravel.Copies(q.h, 21, 0); return err }},
		{160, func() error { _, err := unravel.Copies(q.h, 0, 21); return err }},
		{160, func() error { _, err := unravel.Copies(q.h, 19, 21); return err }},
		{160, func() error { _, err := unravel.Sharing(q.g, q.h, 21); return err }},
		{160, func() error { _, err := unravel.Sharing(q.g, q.h, 20); return err }},
		{160, func() error { _, err := unravel.Print(q.g, q.h, 21, 1); return err }},
		{160, func() error { _, err := unravel.Print(q.g, q.h, 20, 1); return err }},
		{161, func() error { _, err := unravel.Term(q.h, 19); return err }},
		{161, func() error { _, err := unravel.Copies(q.h, 19, 0); return err }},
	} {
		one, other := c.call(), c.call()
		for n := range api.Errno(240) {
			if errors.Is(one, n) != (n == c.n) {
				t.Errorf("%s: errors.Is of %d", told(t, one), n)
			}
		}
		var x, y *api.Fault
		if !errors.As(one, &x) || !errors.As(other, &y) {
			t.Fatalf("%v, %v: no Faults", one, other)
		}
		if x == y || *x != *y || x.Code != c.n || x.At != 0 || x.Why != nil {
			t.Errorf("%v, %v: not two Faults of %d", x, y, c.n)
		}
	}
	for a := range 9 {
		if _, err := unravel.Term(q.h, a); err != nil {
			t.Errorf("Term(%d): %v", a, err)
		}
	}
	if _, e := unravel.Size(q.h, 21); !errors.Is(error(e), api.Errno(160)) {
		t.Errorf("Size: %v", e)
	}
}
