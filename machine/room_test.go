package machine_test

import (
	"errors"
	"slices"
	"strconv"
	"strings"
	"testing"

	"ropewalk/api"
	"ropewalk/heap"
	"ropewalk/machine"
	"ropewalk/system"
)

// chain is a right side with so many symbols: s(s(..X)).
func chain(count int) string {
	return strings.Repeat("s(", count) + "X" + strings.Repeat(")", count)
}

// P15.2, W4: as many free nodes as the right side has symbols, and one less, with nothing to collect.
func TestRoomOfContract(t *testing.T) {
	for symbols := range 8 {
		y := made(t, declared, "d(X) -> "+chain(symbols))
		for free := range 10 {
			h := empty(t, 2+free)
			a := load(t, y, h, "d(z)")
			m := over(t, y, h)
			is(t, "Start", m.Start(a), api.OK)
			if free < symbols {
				noStep(t, m, "151@"+strconv.Itoa(symbols)+" 111")
				has(t, h, "z d(0)")
				rooted(t, m, 1)
				stands(t, m, "1:w0:*")
				continue
			}
			steps(t, m, "contract 1 by 0 at *")
			if h.Used() != 2+symbols {
				t.Errorf("%d nodes for %d symbols", h.Used(), symbols)
			}
		}
	}
}

// P15.2: a Contract that collects first does so only if it must: as many free nodes as it needs are enough, one less is not.
func TestContractCollectsFirst(t *testing.T) {
	for free := range 4 {
		h := refilled(t, 5+free, app(z), app(r), ind(0), app(d, 2), app(six, 0, 0, 0, 0, 0, 0))
		y := made(t, declared, "d(X) -> p(s(X),X)")
		m := over(t, y, h)
		is(t, "Start", m.Start(3), api.OK)
		is(t, "Hold", m.Hold([]int{2, 3}), api.OK)
		if free >= 2 {
			steps(t, m, "contract 3 by 0 at *")
			has(t, h, "z r >0 >6 six(0,0,0,0,0,0) s(0) p(5,0)")
			holding(t, m, 2, 3)
			rooted(t, m, 3)
			stands(t, m, "3:w0:*")
			continue
		}
		steps(t, m, "contract 1 by 0 at *") // where it is behind the collection
		has(t, h, "z >3 s(0) p(2,0)")
		holding(t, m, 0, 1)
		rooted(t, m, 1)
		stands(t, m, "1:w0:*")
		looks(t, m, 3, "*")
	}
}

// P15.2: a Contract that collects far up the spine: the frames' nodes, those that are held, the root and the marks are where they are then.
func TestContractCollectsOnTheWay(t *testing.T) {
	y := full(t)
	h := refilled(t, 9, app(loop), app(z), ind(1), app(r), app(loop), app(d, 3), ind(5), app(p, 2, 6), app(s, 7))
	m := over(t, y, h)
	is(t, "Start", m.Start(8), api.OK)
	is(t, "Hold", m.Hold([]int{6, 2, 8}), api.OK)
	steps(t, m, "go 8; go 7; back 1; go 7")
	stands(t, m, "8:w1:* 7:w2:0 6:w0:1")
	has(t, h, "loop z!! >1 r loop d(3) >5 p(2,6) s(7)")
	steps(t, m, "contract 2 by 0 at 0.1")
	has(t, h, "z!! r >5 p(0,2) s(3) p(1,1)")
	rooted(t, m, 4)
	holding(t, m, 2, 0, 4)
	stands(t, m, "4:w1:* 3:w2:0 2:w0:1")
	steps(t, m, "go 5; contract 1 by 1 at 0.1.0; back 6; go 5; back 6; back 5; back 3; back 4; done")
	has(t, h, "z!! >6 >5 p(0,2)!! s(3)!! p(1,1)!! z!!")
}

// P15.2, R3: a Contract for which there is no room: nothing changes but addresses; another Step tries the same, and does it when room has been made.
func TestNoRoom(t *testing.T) {
	h := refilled(t, 8, app(loop), app(z), ind(1), app(r), app(s, 3), ind(4), app(d, 5), app(p, 2, 6))
	y := made(t, declared, "r -> z; d(X) -> six(s(X),s(X),s(X),s(X),s(X),s(X))")
	m := over(t, y, h)
	is(t, "Start", m.Start(7), api.OK)
	is(t, "Hold", m.Hold([]int{0, 5}), api.OK)
	steps(t, m, "go 7; back 1; go 7")
	for range 3 {
		noStep(t, m, "151@7 111")
		has(t, h, "loop z!! r s(2) d(3) p(1,4)")
		rooted(t, m, 5)
		holding(t, m, 0, 3)
		stands(t, m, "5:w2:* 4:w0:1")
		looks(t, m, 4, "1")
	}
	collects(t, m, 0)
	is(t, "Start", m.Start(2), api.OK) // room is made: all of it is let go
	is(t, "Hold", m.Hold(nil), api.OK)
	steps(t, m, "contract 2 by 0 at *; back 6; done")
	is(t, "Start", m.Start(6), api.OK)
	collects(t, m, 6)
	has(t, h, "z!!")
}

// P15.2: room that is made by letting go of what was held: the same Step goes on from where it stood.
func TestRoomIsMade(t *testing.T) {
	y, h := made(t, declared, "d(X) -> p(s(X),s(X))"), empty(t, 7)
	a := load(t, y, h, "s(d(z))")
	other := load(t, y, h, "p(z,s(z))")
	m := over(t, y, h)
	is(t, "Start", m.Start(a), api.OK)
	is(t, "Hold", m.Hold([]int{other}), api.OK)
	steps(t, m, "go 2")
	noStep(t, m, "151@3 111")
	runs(t, m, 7, api.Ran{}, "151@3 111")
	stands(t, m, "2:w1:* 1:w0:0")
	is(t, "Hold", m.Hold([]int{4}), api.OK)
	noStep(t, m, "151@3 111") // two nodes go, and three must: s(z) is still held
	has(t, h, "z d(0) s(1) z s(3)")
	holding(t, m, 4)
	is(t, "Hold", m.Hold([]int{3}), api.OK)
	steps(t, m, "contract 1 by 0 at 0")
	has(t, h, "z >6 s(1) z s(0) s(0) p(5,4)")
	holding(t, m, 3)
	stands(t, m, "2:w1:* 1:w0:0")
}

// W4: what counts is how many applications stand at or beneath the root, the frames' nodes and the held ones: shared ones once, indirections and what is let go not at all.
func TestWhatTakesRoom(t *testing.T) {
	y := made(t, declared, "d(X) -> p(s(X),X); i(X) -> X")
	nodes := []api.Node{app(z), app(i, 0), app(d, 1), app(s, 2), ind(3), app(p, 4, 3), app(z), app(s, 6), app(s, 6)}
	for _, c := range []struct {
		start int
		held  []int
		live  int
	}{
		{2, nil, 3}, {2, []int{2, 1, 0}, 3}, {3, nil, 4}, {4, nil, 4}, {5, nil, 5}, {5, []int{4, 4}, 5}, {2, []int{5}, 5},
		{2, []int{6}, 4}, {2, []int{7}, 5}, {2, []int{7, 8}, 6}, {5, []int{7, 8, 6}, 8}, {5, []int{8}, 7},
	} {
		for room := 9; room < 13; room++ {
			h := refilled(t, room, nodes...)
			m := over(t, y, h)
			is(t, "Start", m.Start(c.start), api.OK)
			is(t, "Hold", m.Hold(c.held), api.OK)
			x, err := untilContract(t, m)
			if c.live+2 > room {
				if told(t, err) != "151@2 111" || h.Used() != c.live {
					t.Errorf("%v, room %d: %s, %s", c, room, shownStep(x), told(t, err))
				}
			} else if x.Kind != api.Contract || err != nil {
				t.Errorf("%v, room %d: %s, %s", c, room, shownStep(x), told(t, err))
			}
		}
	}
}

// untilContract does Steps up to the first one that contracts, is done or is refused.
func untilContract(t *testing.T, m *machine.Machine) (api.Step, error) {
	t.Helper()
	for range 1000 {
		x, err := m.Step()
		if x.Kind == api.Contract || x.Kind == api.Done || err != nil {
			return x, err
		}
	}
	t.Fatal("it does not end")
	return api.Step{}, nil
}

// W4: a Contract that needs all of the room, and one that needs one more than there ever is.
func TestAllOfTheRoom(t *testing.T) {
	for _, room := range []int{1, 2, 7, 198} {
		for more := range 2 {
			y := made(t, declared, "r -> "+strings.Repeat("s(", room-1+more)+"z"+strings.Repeat(")", room-1+more))
			h := empty(t, room)
			m := over(t, y, h)
			is(t, "Start", m.Start(load(t, y, h, "r")), api.OK)
			noStep(t, m, "151@"+strconv.Itoa(room+more)+" 111") // the redex itself takes one
			has(t, h, "r")
		}
	}
	y, h := made(t, declared, "r -> z; i(X) -> X"), empty(t, 1)
	m := over(t, y, h)
	is(t, "Start", m.Start(load(t, y, h, "r")), api.OK)
	noStep(t, m, "151@1 111")
	h = empty(t, 2)
	m = over(t, y, h)
	is(t, "Start", m.Start(load(t, y, h, "i(r)")), api.OK)
	steps(t, m, "contract 1 by 1 at *; contract 0 by 0 at *; back 1; done") // the indirection makes room: it is collected
	has(t, h, ">1 z!!")
}

// P15.2: the Fault of a Step and that of a Run: its Code, its At, its Why; errors.Is and errors.As; another one each time.
func TestFaults(t *testing.T) {
	y, h := made(t, declared, "d(X) -> p(s(X),X)"), empty(t, 3)
	a := load(t, y, h, "d(z)")
	m := over(t, y, h)
	var none *machine.Machine
	calls := func(m *machine.Machine) []func() error {
		return []func() error{
			func() error { _, err := m.Step(); return err },
			func() error { _, err := m.Run(5); return err },
			func() error { _, err := m.Run(2001); return err },
		}
	}
	bears(t, calls(none), 0, api.ErrArg)
	bears(t, calls(m), 0, api.ErrMachineIdle)
	is(t, "Start", m.Start(a), api.OK)
	bears(t, calls(m), 2, api.ErrMachineFull, api.ErrHeapFull)
}

// bears asks whether calls answer Faults with that At and these numbers, and no others.
func bears(t *testing.T, calls []func() error, at int, want ...api.Errno) {
	t.Helper()
	for _, call := range calls {
		err, again := call(), call()
		var x, y *api.Fault
		if !errors.As(err, &x) || !errors.As(again, &y) || x == y || error(x) != err || x.Code != want[0] || x.At != at {
			t.Errorf("%s, %s", told(t, err), told(t, again))
			continue
		}
		if (x.Why == nil) != (len(want) == 1) || len(want) == 2 && x.Why != error(want[1]) {
			t.Errorf("%s: its Why is %v", told(t, err), x.Why)
		}
		var n api.Errno
		if errors.As(err, &n) != (len(want) == 2) || len(want) == 2 && n != want[1] {
			t.Errorf("%s: errors.As finds %v", told(t, err), n)
		}
		for n := range api.Errno(300) {
			if errors.Is(err, n) != slices.Contains(want, n) {
				t.Errorf("%s: errors.Is for %d", told(t, err), n)
			}
		}
	}
}

// P15.8: collecting changes no answer but addresses: a machine that collects ahead of each Step, and one with no room to spare, do what one with much room does.
func TestCollectingChangesNothing(t *testing.T) {
	y := full(t)
	for _, text := range []string{"d(r)", "add(add(s(s(z)),i(r)),d(z))", "f(p(r,s(r)),d(r),i(r))", "six(d(r),d(d(r)),k(r,loop),g(r,r,r,i(r),r,r),add(r,r),f(s(r),i(z),r))", "d(d(d(d(r))))"} {
		start := func(room int) (*machine.Machine, *heap.Heap) {
			h := empty(t, room)
			a := load(t, y, h, text)
			m := over(t, y, h)
			is(t, "Start", m.Start(a), api.OK)
			return m, h
		}
		least := len(read(t, y, text))
		for least < 400 && !isEnough(t, y, text, least) {
			least++
		}
		one, h := start(400)
		other, j := start(400)
		tight, l := start(least)
		isDone := false
		for range 500 {
			other.Collect()
			other.Collect()
			a, errA := one.Step()
			b, errB := other.Step()
			c, errC := tight.Step()
			if errA != nil || errB != nil || errC != nil {
				t.Fatalf("%s: %v, %v, %v", text, errA, errB, errC)
			}
			if said(a) != said(b) || said(a) != said(c) {
				t.Fatalf("%s: %s, %s, %s", text, said(a), said(b), said(c))
			}
			sameTerm(t, one, h, other, j)
			sameTerm(t, one, h, tight, l)
			isDone = a.Kind == api.Done
		}
		if !isDone {
			t.Errorf("%s does not end", text)
		}
	}
}

// isEnough tells whether a machine with that room comes to an end.
func isEnough(t *testing.T, y *system.System, text string, room int) bool {
	t.Helper()
	h := empty(t, room)
	a := load(t, y, h, text)
	m := over(t, y, h)
	is(t, "Start", m.Start(a), api.OK)
	x, err := m.Run(2000)
	return err == nil && x.Done
}

// said is what a step says but for addresses.
func said(x api.Step) string {
	x.Node = 0
	return shownStep(x)
}

// sameTerm asks whether the roots of two machines have one term, and their frames one form.
func sameTerm(t *testing.T, m *machine.Machine, h *heap.Heap, n *machine.Machine, j *heap.Heap) {
	t.Helper()
	a, _ := m.Root()
	b, _ := n.Root()
	if x, y := termOf(nodesOf(h), a), termOf(nodesOf(j), b); !slices.Equal(x, y) {
		t.Fatalf("%v, %v", x, y)
	}
	x, y := m.Frames(), n.Frames()
	for n := range x {
		x[n].Node = 0
	}
	for n := range y {
		y[n].Node = 0
	}
	if shownFrames(x) != shownFrames(y) {
		t.Fatalf("%s, %s", shownFrames(x), shownFrames(y))
	}
}
