package spine_test

import (
	"errors"
	"math"
	"math/rand"
	"reflect"
	"slices"
	"strings"
	"testing"

	"ropewalk/api"
	"ropewalk/spine"
)

// does does to a spine and to its model one thing: what it was, and what both answer.
func does(t *testing.T, what string, s *spine.Spine, m *model, f api.Frame, to []int) (api.Errno, api.Errno) {
	t.Helper()
	var want api.Errno
	switch what {
	case "push":
		s.Push(f)
		*m = m.pushed(f)
		return api.OK, api.OK
	case "pop":
		var wantF api.Frame
		*m, wantF, want = m.popped()
		gotF, got := s.Pop()
		if shown(gotF) != shown(wantF) {
			t.Fatalf("Pop: %s, not %s", shown(gotF), shown(wantF))
		}
		return got, want
	case "turn":
		*m, want = m.turned(f)
		return s.Turn(f), want
	}
	*m, want = m.moved(to)
	return s.Move(to), want
}

// agrees does one thing, and asks for all that the chapter says behind it.
func agrees(t *testing.T, what string, s *spine.Spine, m *model, f api.Frame, to []int) api.Errno {
	t.Helper()
	before := whole(s)
	got, want := does(t, what, s, m, f, to)
	if got != want {
		t.Fatalf("%s %s, %v: %v, not %v; of %s", what, shown(f), to, got, want, before)
	}
	if whole(s) != m.whole() {
		t.Fatalf("%s %s, %v: %s, not %s; of %s", what, shown(f), to, whole(s), m.whole(), before)
	}
	if got != api.OK && whole(s) != before {
		t.Fatalf("%s: %v changes %s", what, got, before)
	}
	pushAndPop(t, s, f)
	return got
}

// pushAndPop asks whether a Push and a Pop change nothing, and whether what was pushed is what Pop answers.
func pushAndPop(t *testing.T, s *spine.Spine, f api.Frame) {
	t.Helper()
	before := whole(s)
	s.Push(f)
	if got, e := s.Pop(); shown(got) != shown(f) || e != api.OK || whole(s) != before {
		t.Fatalf("%s was pushed, %s popped, %v; %s, not %s", shown(f), shown(got), e, whole(s), before)
	}
}

// P14.1 to P14.4, R2, R3: whatever is done, in whatever order.
func TestWhateverIsDone(t *testing.T) {
	random := rand.New(rand.NewSource(14))
	met := map[string]int{}
	for range 1000 {
		s, m := spine.New(4), &model{wanted(4, 0)}
		for range 40 {
			what := []string{"push", "push", "pop", "pop", "turn", "move"}[random.Intn(6)]
			f := someFrame(random)
			e := agrees(t, what, s, m, f, someMove(random, s.Len()))
			met[what+" "+e.Error()]++
		}
	}
	for what, l := range map[string][]api.Errno{
		"push": {api.OK},
		"pop":  {api.OK, api.ErrSpineEmpty},
		"turn": {api.OK, api.ErrSpineEmpty},
		"move": {api.OK, api.ErrArg, api.ErrSpineNode},
	} {
		for _, e := range l {
			if n := met[what+" "+e.Error()]; n < 100 {
				t.Errorf("%s %v was met %d times", what, e, n)
			}
		}
	}
}

// P14.1 to P14.4: all orders of up to six of a few things.
func TestAllOrders(t *testing.T) {
	type thing struct {
		what string
		f    api.Frame
		to   []int
	}
	things := []thing{
		{"push", rigid(1, 2, 3), nil},
		{"push", wanted(-4, 0), nil},
		{"pop", rigid(8, 8, 8), nil},
		{"turn", rigid(5, -6, 7, 8), nil},
		{"move", api.Frame{}, []int{0, 11}},
		{"move", api.Frame{}, []int{13, -1, 12}},
		{"move", api.Frame{}, []int{14}},
	}
	var order func(done []thing)
	order = func(done []thing) {
		s, m := spine.New(9), &model{wanted(9, 0)}
		for i, x := range done {
			if i == len(done)-1 { // what comes ahead of it was asked when it was the last
				agrees(t, x.what, s, m, x.f, x.to)
			} else {
				does(t, x.what, s, m, x.f, x.to)
			}
		}
		if len(done) == 6 {
			return
		}
		for _, x := range things {
			order(append(done[:len(done):len(done)], x))
		}
	}
	order(nil)
}

// P14.4: a Push and a Pop, by spines with none, one and many frames, and several of them one in another.
func TestPushAndPop(t *testing.T) {
	frames := []api.Frame{{}, rigid(1, 2, 3), wanted(-1, -2, -3, -4), {Path: []int{}}, rigid(math.MinInt, math.MaxInt, make([]int, 1000)...)}
	for _, l := range [][]api.Frame{nil, {wanted(7, 0)}, {{}}, {rigid(4, 1, 1, 0), wanted(2, 3, 2)}, slices.Repeat([]api.Frame{rigid(5, 5, 5)}, 100)} {
		s := spined(t, l...)
		for _, f := range frames {
			pushAndPop(t, s, f)
		}
		for _, f := range frames {
			s.Push(f)
		}
		for _, f := range slices.Backward(frames) {
			gives(t, "Pop", s.Pop, f, api.OK)
		}
		holds(t, s, l...)
	}
}

// R1: a nil spine: ErrArg ahead of all else, or zero values.
func TestNilSpine(t *testing.T) {
	var s *spine.Spine
	for _, f := range []api.Frame{{}, wanted(1, 2, 3)} {
		s.Push(f)
		is(t, "Turn", s.Turn(f), api.ErrArg)
	}
	gives(t, "Pop", s.Pop, api.Frame{}, api.ErrArg)
	gives(t, "Top", s.Top, api.Frame{}, api.ErrArg)
	for _, to := range [][]int{nil, {}, {1}, {-1}, {1, 2}} {
		is(t, "Move", s.Move(to), api.ErrArg)
	}
	if s.Len() != 0 || len(s.Path()) != 0 || len(s.Nodes()) != 0 || len(s.Frames()) != 0 {
		t.Errorf("Len %d, Path %v, Nodes %v, Frames %v", s.Len(), s.Path(), s.Nodes(), s.Frames())
	}
	if s != nil {
		t.Error("it is none any more")
	}
}

// R1: a spine that New did not make has no frame, and takes such as others do.
func TestHandMadeSpine(t *testing.T) {
	s := &spine.Spine{}
	holds(t, s)
	gives(t, "Pop", s.Pop, api.Frame{}, api.ErrSpineEmpty)
	is(t, "Turn", s.Turn(rigid(1, 2, 3)), api.ErrSpineEmpty)
	is(t, "Move", s.Move([]int{1}), api.ErrArg)
	is(t, "Move", s.Move(nil), api.OK)
	holds(t, s)
	s.Push(rigid(1, 2, 3))
	s.Push(wanted(4, 5))
	holds(t, s, rigid(1, 2, 3), wanted(4, 5))
}

// R1: spines that were copied by hand hang together, and nothing is promised of what they tell; but each call ends, and none panics.
func TestSpineCopiedByHand(t *testing.T) {
	random := rand.New(rand.NewSource(15))
	for range 300 {
		l := []*spine.Spine{spine.New(1)}
		for range 60 {
			s := l[random.Intn(len(l))]
			if random.Intn(10) == 0 {
				other := *s
				l = append(l, &other)
			}
			switch random.Intn(4) {
			case 0, 1:
				s.Push(someFrame(random))
			case 2:
				s.Pop()
			default:
				s.Turn(someFrame(random))
			}
			s.Move(someMove(random, s.Len()))
			whole(s)
		}
	}
}

// R4, R5: two spines are each by itself.
func TestTwoSpines(t *testing.T) {
	one, other := spine.New(7), spine.New(7)
	f := rigid(1, 2, 3, 4)
	one.Push(f)
	other.Push(f)
	is(t, "Turn", one.Turn(wanted(5, 6)), api.OK)
	is(t, "Move", one.Move([]int{8, 9}), api.OK)
	holds(t, one, wanted(8, 0), wanted(9, 6))
	holds(t, other, wanted(7, 0), rigid(1, 2, 3, 4))
	one.Pop()
	one.Pop()
	holds(t, other, wanted(7, 0), rigid(1, 2, 3, 4))
}

// R5: the same calls give the same answers each time, whatever was asked between them, and whatever spare room a Path has.
func TestSameEachTime(t *testing.T) {
	first := ""
	for round := range 10 {
		random := rand.New(rand.NewSource(16))
		s, m := spine.New(3), &model{wanted(3, 0)}
		text := ""
		for range 300 {
			what := []string{"push", "push", "pop", "turn", "move"}[random.Intn(5)]
			f, to := someFrame(random), someMove(random, s.Len())
			f.Path, to = slices.Grow(f.Path, round), slices.Grow(to, round)
			e, _ := does(t, what, s, m, f, to)
			for range round {
				pushAndPop(t, s, f)
			}
			text += what + " " + e.Error() + " " + whole(s) + "\n"
		}
		if round > 0 && text != first {
			t.Fatalf("%s\n%s", text, first)
		}
		first = text
	}
}

// Nobody gets past the calls: a spine has the listed ones alone, and no field that others see.
func TestNothingElse(t *testing.T) {
	var names []string
	kind := reflect.TypeOf(&spine.Spine{})
	for i := range kind.NumMethod() {
		names = append(names, kind.Method(i).Name)
	}
	if got := strings.Join(names, " "); got != "Frames Len Move Nodes Path Pop Push Top Turn" {
		t.Errorf("its calls: %s", got)
	}
	for _, x := range reflect.VisibleFields(kind.Elem()) {
		if x.IsExported() {
			t.Errorf("its field %s", x.Name)
		}
	}
}

// Errors: the numbers are the document's, and found by errors.Is.
func TestErrorNumbers(t *testing.T) {
	for e, n := range map[api.Errno]int{api.OK: 0, api.ErrArg: 1, api.ErrSpineEmpty: 140, api.ErrSpineNode: 141} {
		if int(e) != n || !errors.Is(error(e), api.Errno(n)) {
			t.Errorf("%v is not %d", e, n)
		}
	}
}
