package machine_test

import (
	"errors"
	"math"
	"math/rand"
	"reflect"
	"slices"
	"strconv"
	"strings"
	"testing"

	"ropewalk/api"
	"ropewalk/heap"
	"ropewalk/machine"
	"ropewalk/system"
)

// R1: a nil machine: ErrArg ahead of all else, or zero values.
func TestNilMachine(t *testing.T) {
	var m *machine.Machine
	for _, a := range []int{0, 1, -1, math.MinInt, math.MaxInt} {
		is(t, "Start", m.Start(a), api.ErrArg)
		is(t, "Hold", m.Hold([]int{a}), api.ErrArg)
		runs(t, m, a, api.Ran{}, "1@0")
	}
	is(t, "Hold", m.Hold(nil), api.ErrArg)
	noStep(t, m, "1@0")
	collects(t, m, 0)
	holding(t, m)
	stands(t, m, "")
	if a, e := m.Root(); a != 0 || e != api.ErrArg {
		t.Errorf("Root: %d, %v", a, e)
	}
	if a, path, e := m.Focus(); a != 0 || len(path) != 0 || e != api.ErrArg {
		t.Errorf("Focus: %d, %v, %v", a, path, e)
	}
}

// R1: a machine that New did not make has neither a system nor nodes: nothing can be started.
func TestHandMadeMachine(t *testing.T) {
	m := &machine.Machine{}
	for range 2 {
		isIdle(t, m)
		for _, a := range append(outside(0), 0) {
			is(t, "Start", m.Start(a), api.ErrMachineNode)
			is(t, "Hold", m.Hold([]int{a}), api.ErrMachineNode)
		}
		is(t, "Hold", m.Hold(nil), api.OK)
		collects(t, m, 0)
		holding(t, m)
	}
}

// R1: a machine over a heap and a system that New did not make.
func TestHandMadeParts(t *testing.T) {
	m := over(t, &system.System{}, &heap.Heap{})
	isIdle(t, m)
	is(t, "Start", m.Start(0), api.ErrMachineNode)
	collects(t, m, 0)
	y := &system.System{}
	declare(t, y, "con a/0; fun b/1")
	rule(t, y, "b(X) -> X")
	h := refilled(t, 3, app(0), app(1, 0))
	m = over(t, y, h)
	is(t, "Start", m.Start(1), api.OK)
	steps(t, m, "contract 1 by 0 at *; back 0; done")
}

// calls does all calls of a machine, in an order that a seed chooses; none may panic, and each must end.
func calls(random *rand.Rand, m *machine.Machine, h *heap.Heap) {
	address := func() int { return random.Intn(h.Used()+3) - 1 }
	for range 12 {
		switch random.Intn(10) {
		case 0:
			m.Start(address())
		case 1:
			m.Hold([]int{address(), address()})
		case 2:
			m.Collect()
		case 3:
			m.Run(random.Intn(30))
		default:
			m.Step()
		}
		m.Held()
		m.Root()
		m.Focus()
		m.Frames()
	}
}

// R1: machines that somebody copied by hand hang together, and nothing is promised of what they tell; but each call ends, and none panics.
func TestMachineCopiedByHand(t *testing.T) {
	random := rand.New(rand.NewSource(19))
	for range 500 {
		x := somePair(t, random)
		l := []*machine.Machine{x.machine}
		for range 10 {
			m := l[random.Intn(len(l))]
			if random.Intn(3) == 0 {
				other := *m
				l = append(l, &other)
			}
			if random.Intn(5) == 0 {
				x.system.AddRules([]api.Rule{someRule(random)})
			}
			calls(random, m, x.heap)
		}
	}
}

// R1: a heap that somebody else changes, which the chapter rules out: each call ends, and none panics; what is refused is a Fault.
func TestHeapChangedByOthers(t *testing.T) {
	random := rand.New(rand.NewSource(20))
	refused := map[string]int{}
	for range 3000 {
		x := somePair(t, random)
		other, third := *x.heap, *x.system
		for range 6 {
			calls(random, x.machine, x.heap)
			switch random.Intn(6) {
			case 0:
				x.heap.Refill(someNodes(random, random.Intn(x.heap.Room()+1)))
			case 1:
				x.heap.Refill([]api.Node{app(0), app(lacking, 0), marked(1, 1, 1), app(5)}[:min(4, x.heap.Room())])
			case 2:
				x.heap.Point(random.Intn(x.heap.Room()), random.Intn(x.heap.Room()))
				x.heap.Mark(random.Intn(x.heap.Room()), random.Intn(3))
			case 3:
				other.Refill(someNodes(random, random.Intn(x.heap.Room()+1)))
				other.Make(0)
			case 4:
				*x.heap = other
			default:
				*x.system = third
			}
			if _, err := x.machine.Step(); err != nil {
				refused[told(t, err)]++
			}
		}
	}
	for _, word := range []string{"152@0 112", "152@0 90"} {
		if refused[word] < 20 {
			t.Errorf("%s was met %d times: %v", word, refused[word], refused)
		}
	}
}

// spoil fills a list and its spare room.
func spoil(l []int) {
	l = l[:cap(l)]
	for n := range l {
		l[n] = -7777
	}
}

// R4: what is handed in is neither changed nor kept, its spare room included.
func TestWhatComesIn(t *testing.T) {
	m, h := begun(t, 40, "p(d(z),r)")
	l := []int{3, 0, 2, 3, 71, 72}
	want := slices.Clone(l)
	is(t, "Hold", m.Hold(l[:4]), api.OK)
	is(t, "Hold", m.Hold(l[:5]), api.ErrMachineNode)
	collects(t, m, 0)
	steps(t, m, "go 3; contract 2 by 0 at 0")
	is(t, "Hold", m.Hold(l[:3]), api.OK)
	collects(t, m, 1)
	has(t, h, "r z p(3,0) p(1,1)")
	if !slices.Equal(l, want) {
		t.Errorf("%v, not %v", l, want)
	}
	holding(t, m, 2, 0, 3)
	is(t, "Hold", m.Hold(l[:2]), api.OK)
	spoil(l)
	holding(t, m, 3, 0)
	collects(t, m, 0)
	holding(t, m, 3, 0)
}

// R4: what goes out is new memory, spare room too: whatever is done to it, the machine tells what it told.
func TestWhatGoesOut(t *testing.T) {
	m, h := begun(t, 40, "s(f(p(r,add(r,z)),z,r))")
	is(t, "Hold", m.Hold([]int{8, 7, 6}), api.OK)
	for range 40 {
		before := whole(m, h)
		spoilAll(m)
		if got := whole(m, h); got != before {
			t.Fatalf("%s, not %s", got, before)
		}
		x, err := m.Step()
		if err != nil {
			t.Fatal(err)
		}
		before = whole(m, h)
		spoil(x.Path)
		if got := whole(m, h); got != before {
			t.Fatalf("%s, not %s", got, before)
		}
	}
	steps(t, m, "done")
}

// spoilAll spoils all lists that a machine gives out.
func spoilAll(m *machine.Machine) {
	spoil(m.Held())
	_, path, _ := m.Focus()
	spoil(path)
	l := m.Frames()
	for _, x := range l[:cap(l)] {
		spoil(x.Path)
	}
	for n := range l[:cap(l)] {
		l[:cap(l)][n] = api.Frame{Node: -7777, Next: -7777}
	}
}

// R4: no two lists of one answer share memory, and what one answer tells stays, whatever is done then.
func TestAnswersStay(t *testing.T) {
	m, _ := begun(t, 40, "s(s(s(f(p(r,add(r,z)),z,r))))")
	var answers, texts []string
	var lists [][]api.Frame
	var paths, held [][]int
	is(t, "Hold", m.Hold([]int{0, 3, 5}), api.OK)
	for range 30 {
		x, _ := m.Step()
		_, focus, _ := m.Focus()
		lists, paths, held = append(lists, m.Frames()), append(paths, x.Path, focus), append(held, m.Held())
		answers = append(answers, shownFrames(m.Frames())+shownPath(x.Path)+shownPath(focus)+numbers(m.Held()))
		m.Collect()
	}
	for n := range lists {
		texts = append(texts, shownFrames(lists[n])+shownPath(paths[2*n])+shownPath(paths[2*n+1])+numbers(held[n]))
	}
	if !slices.Equal(answers, texts) {
		t.Errorf("%v, not %v", texts, answers)
	}
	l := lists[8]
	for n := range l {
		spoil(l[n].Path)
		for k := range l {
			if k > n && slices.Contains(l[k].Path, -7777) {
				t.Errorf("the Paths of the frames %d and %d share memory", n, k)
			}
		}
	}
}

// R4: the system that a machine takes is only asked: it tells what it told.
func TestSystemStays(t *testing.T) {
	y := full(t)
	before := systemText(y)
	h := empty(t, 60)
	a := load(t, y, h, "six(d(r),d(d(r)),k(r,loop),g(r,r,r,i(r),r,r),add(r,r),f(s(r),i(z),r))")
	m := over(t, y, h)
	is(t, "Start", m.Start(a), api.OK)
	if x, err := m.Run(2000); !x.Done || err != nil {
		t.Errorf("Run: %v, %v", x, err)
	}
	collects(t, m, h.Used()-len(liveOf(h, m)))
	if got := systemText(y); got != before {
		t.Errorf("%s, not %s", got, before)
	}
}

// liveOf are the applications that a machine's root keeps.
func liveOf(h *heap.Heap, m *machine.Machine) []int {
	root, _ := m.Root()
	return (&model{nodes: nodesOf(h)}).live([]int{root})
}

func systemText(y *system.System) string {
	text := strconv.Itoa(y.Version())
	for _, x := range y.Sig().All() {
		text += " " + x.Name + strconv.Itoa(x.Arity) + strconv.FormatBool(x.Defined)
	}
	for _, x := range y.Rules().All() {
		text += "; " + numbers(x.Left) + " " + numbers(x.Right)
	}
	return text
}

// R4, R5: two machines over copies of one system are each by itself.
func TestTwoMachines(t *testing.T) {
	y := full(t)
	one, other := empty(t, 40), empty(t, 40)
	m, n := over(t, y, one), over(t, y.Copy(), other)
	is(t, "Start", m.Start(load(t, y, one, "d(r)")), api.OK)
	is(t, "Start", n.Start(load(t, y, other, "add(r,z)")), api.OK)
	steps(t, m, "contract 1 by 0 at *; go 2")
	steps(t, n, "ask 2")
	rule(t, y, "g(X,Y,Z,V,W,U) -> X")
	stands(t, m, "1:w0:*")
	stands(t, n, "2:w0:* 1:0:0")
	steps(t, n, "contract 1 by 1 at 0")
	steps(t, m, "go 2; contract 0 by 1 at 0")
}

// R5: the same calls give the same answers each time, whatever is asked between them.
func TestSameEachTime(t *testing.T) {
	for seed := range 40 {
		first := ""
		for round := range 4 {
			random := rand.New(rand.NewSource(int64(seed)))
			x := somePair(t, random)
			a := random.Intn(x.heap.Used())
			is(t, "Start", x.machine.Start(a), x.model.start(a))
			text := ""
			for range 60 {
				for range round {
					whole(x.machine, x.heap)
				}
				text += x.does(t, random) + " "
			}
			text += whole(x.machine, x.heap)
			if round > 0 && text != first {
				t.Fatalf("%s\n%s", text, first)
			}
			first = text
		}
	}
}

// Nobody gets past the calls: a machine has the listed ones alone, and no field that others see.
func TestNothingElse(t *testing.T) {
	var names []string
	kind := reflect.TypeOf(&machine.Machine{})
	for n := range kind.NumMethod() {
		names = append(names, kind.Method(n).Name)
	}
	if got := strings.Join(names, " "); got != "Collect Focus Frames Held Hold Root Run Start Step" {
		t.Errorf("its calls: %s", got)
	}
	for _, x := range reflect.VisibleFields(kind.Elem()) {
		if x.IsExported() {
			t.Errorf("its field %s", x.Name)
		}
	}
}

// Errors: the numbers are the document's, and found by errors.Is.
func TestErrorNumbers(t *testing.T) {
	for e, n := range map[api.Errno]int{api.OK: 0, api.ErrArg: 1, api.ErrMachineIdle: 150, api.ErrMachineFull: 151, api.ErrMachineNode: 152, api.ErrHeapFull: 111} {
		if int(e) != n || !errors.Is(error(e), api.Errno(n)) {
			t.Errorf("%v is not %d", e, n)
		}
	}
	for kind, n := range map[int]int{api.Contract: 1, api.Ask: 2, api.Stiff: 3, api.Go: 4, api.Back: 5, api.Done: 6} {
		if kind != n {
			t.Errorf("%d is not %d", kind, n)
		}
	}
}
