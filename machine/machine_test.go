package machine_test

import (
	"math"
	"slices"
	"testing"

	"ropewalk/api"
	"ropewalk/heap"
	"ropewalk/machine"
	"ropewalk/system"
)

// The chapter's examples: each step, what the heap has, and where the machine is.
func TestExamples(t *testing.T) {
	m, h := begun(t, 40, "d(r)")
	has(t, h, "r d(0)")
	steps(t, m, "contract 1 by 0 at *")
	has(t, h, "r >2 p(0,0)")
	steps(t, m, "go 2; contract 0 by 1 at 0")
	has(t, h, ">3 >2 p(0,0) z")
	steps(t, m, "back 3; go 2; back 3; back 2; done")
	has(t, h, ">3 >2 p(0,0)!! z!!")

	m, h = begun(t, 40, "add(r,z)")
	has(t, h, "z r add(1,0)")
	steps(t, m, "ask 2; contract 1 by 1 at 0; back 3; contract 2 by 2 at *; back 0; done")
	has(t, h, "z!! >3 >0 z")

	m, h = begun(t, 40, "add(p(z,z),r)")
	has(t, h, "r z z p(2,1) add(3,0)")
	steps(t, m, "stiff 4; go 4; go 3; back 2; go 3; back 1; back 3; go 4; contract 0 by 1 at 1; back 5; back 4; done")
	has(t, h, ">5 z!! z!! p(2,1)!! add(3,0)!! z!!")
}

// P15.1: New: nothing was started, nothing is held, and no node is marked.
func TestNew(t *testing.T) {
	h := refilled(t, 9, marked(2, z), marked(1, r), marked(2, p, 0, 1), ind(2), app(s, 3))
	m := over(t, full(t), h)
	has(t, h, "z r p(0,1) >2 s(3)")
	holding(t, m)
	isIdle(t, m)
	has(t, h, "z r p(0,1) >2 s(3)")
	for _, h := range []*heap.Heap{empty(t, 1), empty(t, 4000)} {
		for _, y := range []*system.System{system.New(), made(t, declared), full(t)} {
			m := over(t, y, h)
			holding(t, m)
			isIdle(t, m)
		}
	}
}

// P15.1: New asks nothing of the nodes: they may have symbols that the system lacks, and other numbers of arguments.
func TestNewAsksNothing(t *testing.T) {
	h := refilled(t, 9, app(lacking), marked(1, s), app(z, 0, 1), app(5000, 2))
	over(t, full(t), h)
	has(t, h, "12 s z(0,1) 5000(2)")
}

// R1, R3: New of nothing: the marks stay.
func TestNewOfNil(t *testing.T) {
	var noSystem *system.System
	var noHeap *heap.Heap
	h := refilled(t, 9, marked(2, z), marked(1, r))
	for _, y := range []*system.System{noSystem, full(t)} {
		for _, x := range []*heap.Heap{noHeap, h} {
			if y != nil && x != nil {
				continue
			}
			if m, e := machine.New(y, x); m != nil || e != api.ErrArg {
				t.Errorf("New: %v, %v", m, e)
			}
		}
	}
	has(t, h, "z!! r!")
}

// P15.1: Start: the node is the root, and the spine has one frame for it.
func TestStart(t *testing.T) {
	h := refilled(t, 9, app(z), app(r), app(p, 0, 1), ind(2), app(s, 3), ind(3))
	m := over(t, full(t), h)
	for _, a := range []int{0, 1, 2, 4} {
		is(t, "Start", m.Start(a), api.OK)
		rooted(t, m, a)
		stands(t, m, map[int]string{0: "0:w0:*", 1: "1:w0:*", 2: "2:w0:*", 4: "4:w0:*"}[a])
		looks(t, m, a, "*")
		has(t, h, "z r p(0,1) >2 s(3) >3")
	}
}

// P15.1, P15.5: Start at an indirection: the root and the frame name it; the focus is the application. A Step makes the frame name that; the root stays.
func TestStartAtIndirection(t *testing.T) {
	h := refilled(t, 9, app(z), app(r), app(p, 0, 1), ind(2), app(s, 3), ind(3))
	m := over(t, full(t), h)
	is(t, "Start", m.Start(5), api.OK)
	rooted(t, m, 5)
	stands(t, m, "5:w0:*")
	looks(t, m, 2, "*")
	stands(t, m, "5:w0:*")
	steps(t, m, "go 2")
	rooted(t, m, 5)
	stands(t, m, "2:w1:* 0:w0:0")
}

// P15.1, R3: Start where there is no node: nothing changes, neither what was not started nor what was.
func TestStartWithoutNode(t *testing.T) {
	h := refilled(t, 9, app(z), app(r), app(p, 0, 1))
	m := over(t, full(t), h)
	for _, a := range outside(3) {
		is(t, "Start", m.Start(a), api.ErrMachineNode)
	}
	isIdle(t, m)
	is(t, "Start", m.Start(2), api.OK)
	is(t, "Hold", m.Hold([]int{1, 0}), api.OK)
	steps(t, m, "go 2; back 0; go 2")
	before := whole(m, h)
	for _, a := range outside(3) {
		is(t, "Start", m.Start(a), api.ErrMachineNode)
	}
	if got := whole(m, h); got != before {
		t.Errorf("%s, not %s", got, before)
	}
	steps(t, m, "contract 1 by 1 at 1")
	m = over(t, full(t), empty(t, 9))
	for _, a := range append(outside(0), 0) {
		is(t, "Start", m.Start(a), api.ErrMachineNode)
	}
}

// P15.1, R3: Start where a symbol is lacking, or has another number of arguments: at the node itself, beneath it, and through indirections; beside it alone it does no harm.
func TestStartAtWrongNodes(t *testing.T) {
	y := full(t)
	for _, bad := range []api.Node{app(lacking), app(lacking, 0), app(math.MaxInt), app(z, 0), app(s), app(s, 0, 0), app(p, 0), app(p, 0, 0, 0), app(r, 0), app(six, 0, 0, 0, 0, 0), app(g), app(add, 0), app(lacking, 0, 0, 0, 0, 0, 0), app(f, 0, 0, 0, 0)} {
		h := refilled(t, 20, app(z), bad, ind(1), ind(2), app(s, 1), app(p, 0, 3), app(d, 5), ind(6), app(six, 0, 0, 0, 0, 0, 7), app(p, 0, 0), ind(9))
		m := over(t, y, h)
		before := whole(m, h)
		for _, a := range []int{1, 2, 3, 4, 5, 6, 7, 8} {
			is(t, "Start", m.Start(a), api.ErrMachineNode)
			if got := whole(m, h); got != before {
				t.Errorf("Start(%d): %s, not %s", a, got, before)
			}
		}
		for _, a := range []int{0, 9, 10} {
			is(t, "Start", m.Start(a), api.OK)
			rooted(t, m, a)
		}
		before = whole(m, h)
		for _, a := range []int{8, 1, 7} {
			is(t, "Start", m.Start(a), api.ErrMachineNode)
			if got := whole(m, h); got != before {
				t.Errorf("Start(%d): %s, not %s", a, got, before)
			}
		}
	}
}

// P15.1: which symbols there are says the system as it is then.
func TestStartBySystem(t *testing.T) {
	y, h := system.New(), refilled(t, 9, app(z), app(s, 0))
	m := over(t, y, h)
	is(t, "Start", m.Start(0), api.ErrMachineNode)
	declare(t, y, "con z/0")
	is(t, "Start", m.Start(0), api.OK)
	is(t, "Start", m.Start(1), api.ErrMachineNode)
	rooted(t, m, 0)
	declare(t, y, "fun s/1")
	is(t, "Start", m.Start(1), api.OK)
	steps(t, m, "stiff 1; go 1; back 0; back 1; done")
}

// P15.1: Start in the midst of a run: a new spine; what is marked stays marked, and what is held stays held.
func TestStartAgain(t *testing.T) {
	m, h := begun(t, 40, "p(d(z),add(p(z,z),r))")
	is(t, "Hold", m.Hold([]int{3}), api.OK)
	steps(t, m, "go 7; contract 6 by 0 at 0; go 8; back 5; go 8; back 5; back 8; go 7; stiff 4; go 4; go 3")
	stands(t, m, "7:w2:* 4:w1:1 3:w1:0 2:w0:0")
	before := "r z z p(2,1) add(3,0)! z!! >8 p(6,4) p(5,5)!!"
	has(t, h, before)
	is(t, "Start", m.Start(4), api.OK)
	stands(t, m, "4:w0:*")
	rooted(t, m, 4)
	holding(t, m, 3)
	has(t, h, before)
	steps(t, m, "go 4; go 3; back 2; go 3; back 1; back 3; go 4; contract 0 by 1 at 1; back 9; back 4; done")
	is(t, "Start", m.Start(7), api.OK)
	steps(t, m, "go 7; back 8; go 7; back 4; back 7; done")
	steps(t, m, "done; done")
	is(t, "Start", m.Start(7), api.OK)
	steps(t, m, "back 7; done")
}

// P15.4: Hold of none, of some, of one several times, of indirections; those that were held are held no more.
func TestHold(t *testing.T) {
	h := refilled(t, 9, app(z), app(s, 0), ind(1), app(lacking), app(s))
	m := over(t, full(t), h)
	for _, l := range [][]int{nil, {}, {0}, {4, 3, 2, 1, 0}, {2, 2, 0, 2}, {3}, nil, {1}, {}} {
		is(t, "Hold", m.Hold(l), api.OK)
		holding(t, m, l...)
	}
	isIdle(t, m)
	has(t, h, "z s(0) >1 12 s")
	is(t, "Hold", m.Hold(slices.Repeat([]int{1, 2, 3}, 5000)), api.OK)
	holding(t, m, slices.Repeat([]int{1, 2, 3}, 5000)...)
}

// P15.4, R3: Hold of what is no node: those that were held are held still.
func TestHoldWithoutNode(t *testing.T) {
	h := refilled(t, 9, app(z), app(s, 0), ind(1))
	m := over(t, full(t), h)
	for _, l := range [][]int{nil, {0}, {2, 1}} {
		is(t, "Hold", m.Hold(l), api.OK)
		for _, a := range outside(3) {
			for _, bad := range [][]int{{a}, {a, 0}, {0, a}, {0, 1, a, 2}, {0, 1, 2, 1, 0, a}} {
				is(t, "Hold", m.Hold(bad), api.ErrMachineNode)
				holding(t, m, l...)
			}
		}
	}
}

// P15.4: Collect: what the root, the frames and those that are held are, and what stands beneath, is kept, and all of these name where it is then.
func TestCollect(t *testing.T) {
	m, h := begun(t, 40, "p(d(z),add(p(z,z),r))")
	is(t, "Hold", m.Hold([]int{6, 1, 6}), api.OK)
	steps(t, m, "go 7; contract 6 by 0 at 0")
	has(t, h, "r z z p(2,1) add(3,0) z >8 p(6,4) p(5,5)")
	holding(t, m, 6, 1, 6)
	rooted(t, m, 7)
	stands(t, m, "7:w1:* 6:w0:0")
	looks(t, m, 8, "0")
	collects(t, m, 1)
	has(t, h, "r z z p(2,1) add(3,0) z p(7,4) p(5,5)")
	holding(t, m, 7, 1, 7)
	rooted(t, m, 6)
	stands(t, m, "6:w1:* 7:w0:0")
	looks(t, m, 7, "0")
	collects(t, m, 0)
	has(t, h, "r z z p(2,1) add(3,0) z p(7,4) p(5,5)")
	stands(t, m, "6:w1:* 7:w0:0")
	steps(t, m, "go 7; back 5; go 7; back 5; back 7; go 6; stiff 4; go 4; go 3; back 2")
}

// P15.4: marks stay with their nodes, and a run goes on behind a collection as it would have without.
func TestCollectOnTheWay(t *testing.T) {
	m, h := begun(t, 40, "add(r,p(r,i(r)))")
	has(t, h, "r i(0) r p(2,1) r add(4,3)")
	steps(t, m, "ask 5; contract 4 by 1 at 0; back 6; contract 5 by 2 at *")
	has(t, h, "r i(0) r p(2,1) >6 >3 z")
	rooted(t, m, 5)
	stands(t, m, "5:w0:*")
	collects(t, m, 3)
	has(t, h, "r i(0) r p(2,1)")
	rooted(t, m, 3)
	stands(t, m, "3:w0:*")
	steps(t, m, "go 3; contract 2 by 1 at 0; back 4")
	has(t, h, "r i(0) >4 p(2,1) z!!")
	collects(t, m, 1)
	has(t, h, "r i(0) p(3,1) z!!")
	steps(t, m, "go 2; contract 1 by 5 at 1")
	has(t, h, "r >0 p(3,1) z!!")
	stands(t, m, "2:w2:* 1:w0:1")
	collects(t, m, 1)
	has(t, h, "r p(2,0) z!!")
	stands(t, m, "1:w2:* 0:w0:1")
	steps(t, m, "contract 0 by 1 at 1")
	collects(t, m, 1)
	has(t, h, "p(1,2) z!! z")
	stands(t, m, "0:w2:* 2:w0:1")
	steps(t, m, "back 2; back 0")
	collects(t, m, 0)
	has(t, h, "p(1,2)!! z!! z!!")
	noFocus(t, m)
	steps(t, m, "done")
	rooted(t, m, 0)
}

// P15.4: a Collect with nothing started keeps what is held alone; with nothing held, nothing.
func TestCollectWithoutStart(t *testing.T) {
	h := refilled(t, 9, app(z), app(lacking, 0), ind(1), app(r), app(s, 2), app(p))
	m := over(t, full(t), h)
	is(t, "Hold", m.Hold([]int{5, 2}), api.OK)
	collects(t, m, 3)
	has(t, h, "z 12(0) p")
	holding(t, m, 2, 1)
	isIdle(t, m)
	collects(t, m, 0)
	holding(t, m, 2, 1)
	is(t, "Hold", m.Hold(nil), api.OK)
	collects(t, m, 3)
	has(t, h, "")
	holding(t, m)
	collects(t, m, 0)
	isIdle(t, m)
	collects(t, over(t, full(t), empty(t, 1)), 0)
}

// P15.4: a machine that is done keeps its root still.
func TestCollectBehindDone(t *testing.T) {
	m, h := begun(t, 9, "k(s(z),r)")
	has(t, h, "r z s(1) k(2,0)")
	runs(t, m, 99, api.Ran{Steps: 4, Contracted: 1, Done: true}, "")
	has(t, h, "r z!! s(1)!! >2")
	collects(t, m, 2)
	has(t, h, "z!! s(0)!!")
	rooted(t, m, 1)
	stands(t, m, "")
	steps(t, m, "done")
}

// P15.4: Held tells the addresses as they were handed in, till a collection, whatever becomes of the nodes.
func TestHeldAsHandedIn(t *testing.T) {
	m, h := begun(t, 9, "d(i(z))")
	is(t, "Hold", m.Hold([]int{2, 1, 0}), api.OK)
	runs(t, m, 99, api.Ran{Steps: 7, Contracted: 2, Done: true}, "")
	has(t, h, "z!! >0 >3 p(1,1)!!")
	holding(t, m, 2, 1, 0)
	collects(t, m, 2)
	has(t, h, "z!! p(0,0)!!")
	holding(t, m, 1, 0, 0)
}

// P15.5: Root, Focus and Frames, step by step, of frames that are asked for and of such as are gone to.
func TestWhereItIs(t *testing.T) {
	m, h := begun(t, 40, "s(f(p(r,add(r,z)),z,r))")
	has(t, h, "r z z r add(3,2) r p(5,4) f(6,1,0) s(7)")
	for _, c := range []struct {
		step, frames, path string
		focus              int
	}{
		{"go 8", "8:w1:* 7:w0:0", "0", 7},
		{"ask 7", "8:w1:* 7:w0:0 4:0:0.1", "0.0.1", 4},
		{"ask 4", "8:w1:* 7:w0:0 4:0:0.1 3:0:0", "0.0.1.0", 3},
		{"contract 3 by 1 at 0.0.1.0", "8:w1:* 7:w0:0 4:0:0.1 3:0:0", "0.0.1.0", 9},
		{"back 9", "8:w1:* 7:w0:0 4:0:0.1", "0.0.1", 4},
		{"contract 4 by 2 at 0.0.1", "8:w1:* 7:w0:0 4:0:0.1", "0.0.1", 2},
		{"back 2", "8:w1:* 7:w0:0", "0", 7},
		{"stiff 7", "8:w1:* 7:w0:0", "0", 7},
		{"go 7", "8:w1:* 7:w1:0 6:w0:0", "0.0", 6},
		{"go 6", "8:w1:* 7:w1:0 6:w1:0 5:w0:0", "0.0.0", 5},
		{"contract 5 by 1 at 0.0.0", "8:w1:* 7:w1:0 6:w1:0 5:w0:0", "0.0.0", 10},
		{"back 10", "8:w1:* 7:w1:0 6:w1:0", "0.0", 6},
		{"go 6", "8:w1:* 7:w1:0 6:w2:0 4:w0:1", "0.0.1", 2},
		{"back 2", "8:w1:* 7:w1:0 6:w2:0", "0.0", 6},
		{"back 6", "8:w1:* 7:w1:0", "0", 7},
		{"go 7", "8:w1:* 7:w2:0 1:w0:1", "0.1", 1},
		{"back 1", "8:w1:* 7:w2:0", "0", 7},
		{"go 7", "8:w1:* 7:w3:0 0:w0:2", "0.2", 0},
		{"contract 0 by 1 at 0.2", "8:w1:* 7:w3:0 0:w0:2", "0.2", 11},
		{"back 11", "8:w1:* 7:w3:0", "0", 7},
		{"back 7", "8:w1:*", "*", 8},
	} {
		steps(t, m, c.step)
		stands(t, m, c.frames)
		looks(t, m, c.focus, c.path)
		rooted(t, m, 8)
	}
	steps(t, m, "back 8")
	stands(t, m, "")
	noFocus(t, m)
	rooted(t, m, 8)
	steps(t, m, "done; done")
	noFocus(t, m)
	rooted(t, m, 8)
}

// P15.2, P15.5: a frame names what it named till a Step looks at it: its Node is the argument's address, an indirection's too.
func TestFramesAsTheyName(t *testing.T) {
	y := full(t)
	h := refilled(t, 20, app(z), ind(0), ind(1), app(s, 2), ind(3), app(add, 4, 2), ind(5))
	m := over(t, y, h)
	is(t, "Start", m.Start(6), api.OK)
	stands(t, m, "6:w0:*")
	steps(t, m, "contract 5 by 3 at *")
	has(t, h, "z >0 >1 s(2) >3 >8 >5 add(0,0) s(7)")
	stands(t, m, "5:w0:*")
	looks(t, m, 8, "*")
	steps(t, m, "go 8")
	stands(t, m, "8:w1:* 7:w0:0")
	rooted(t, m, 6)

	h = refilled(t, 20, app(r), ind(0), ind(1), app(add, 2, 2), ind(3))
	m = over(t, y, h)
	is(t, "Start", m.Start(4), api.OK)
	steps(t, m, "ask 3") // what is demanded is named as the application that it is
	stands(t, m, "3:w0:* 0:0:0")

	h = refilled(t, 20, app(z), ind(0), ind(1), app(p, 2, 1))
	m = over(t, y, h)
	is(t, "Start", m.Start(3), api.OK)
	steps(t, m, "go 3") // and what is gone to is not
	stands(t, m, "3:w1:* 2:w0:0")
	looks(t, m, 0, "0")
	stands(t, m, "3:w1:* 2:w0:0")
	steps(t, m, "back 0; go 3")
	stands(t, m, "3:w2:* 1:w0:1")
}

// DOC.md, 'Ten examples of the whole': those that run a machine.
func TestExamplesOfTheWhole(t *testing.T) {
	start := func(room int, symbols, rules, text string) (*machine.Machine, *heap.Heap, *system.System) {
		y, h := made(t, symbols, rules), empty(t, room)
		a := load(t, y, h, text)
		m := over(t, y, h)
		is(t, "Start", m.Start(a), api.OK)
		return m, h, y
	}
	m, _, _ := start(40, "con z/0, s/1, p/2; fun d/1, r/0", "d(X) -> p(X,X); r -> z", "d(r)") // 1
	steps(t, m, "contract 1 by 0 at *")
	runs(t, m, 100, api.Ran{Steps: 6, Contracted: 1, Done: true}, "")
	m, _, _ = start(40, "con z/0, s/1; fun add/2", "add(z,X) -> X; add(s(X),Y) -> s(add(X,Y))", "add(s(z),s(z))") // 2
	runs(t, m, 100, api.Ran{Steps: 7, Contracted: 2, Done: true}, "")
	m, h, y := start(9, "con a/0; fun k/2, loop/0", "k(X,Y) -> X; loop -> loop", "k(a,loop)") // 3
	runs(t, m, 100, api.Ran{Steps: 2, Contracted: 1, Done: true}, "")
	is(t, "Start", m.Start(load(t, y, h, "loop")), api.OK)
	runs(t, m, 5, api.Ran{Steps: 5, Contracted: 5}, "")
	m, _, _ = start(9, "con z/0, s/1; fun d/1", "d(z) -> z", "d(s(z))") // 4
	steps(t, m, "stiff 2")
	runs(t, m, 10, api.Ran{Steps: 5, Done: true}, "")
	m, _, _ = start(2, "con p/2, z/0; fun d/1, r/0", "d(X) -> p(X,X); r -> z", "d(r)") // 6
	noStep(t, m, "151@1 111")
	m, h, _ = start(40, "con z/0, p/2; fun d/1", "d(X) -> p(X,X)", "d(d(d(d(d(d(d(d(z))))))))") // 7
	runs(t, m, 100, api.Ran{Steps: 41, Contracted: 8, Done: true}, "")
	collects(t, m, 8)
	if h.Used() != 9 {
		t.Errorf("%d nodes are left", h.Used())
	}
	m, _, y = start(9, "con z/0; fun r/0", "", "r") // 8
	runs(t, m, 10, api.Ran{Steps: 2, Done: true}, "")
	rule(t, y, "r -> z")
	runs(t, m, 10, api.Ran{Steps: 2, Contracted: 1, Done: true}, "")
}
