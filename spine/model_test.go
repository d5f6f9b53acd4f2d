package spine_test

import (
	"math"
	"math/rand"
	"slices"
	"strconv"
	"strings"
	"testing"

	"ropewalk/api"
	"ropewalk/spine"
)

// rigid is a frame of which it is wanted alone that it be rigid.
func rigid(node, next int, path ...int) api.Frame {
	return api.Frame{Node: node, Next: next, Path: path}
}

// wanted is a frame all of which is wanted.
func wanted(node, next int, path ...int) api.Frame {
	return api.Frame{Node: node, Whole: true, Next: next, Path: path}
}

// spined is a spine that has just these frames.
func spined(t *testing.T, l ...api.Frame) *spine.Spine {
	t.Helper()
	s := spine.New(0)
	if _, e := s.Pop(); e != api.OK {
		t.Fatalf("Pop: %v", e)
	}
	for _, f := range l {
		s.Push(f)
	}
	return s
}

func numbers(l []int) string {
	var words []string
	for _, n := range l {
		words = append(words, strconv.Itoa(n))
	}
	return strings.Join(words, " ")
}

// shown is a frame as a text, all of its fields.
func shown(f api.Frame) string {
	return "{" + strconv.Itoa(f.Node) + " " + strconv.FormatBool(f.Whole) + " " + strconv.Itoa(f.Next) + ": " + numbers(f.Path) + "}"
}

func shownList(l []api.Frame) string {
	var words []string
	for _, f := range l {
		words = append(words, shown(f))
	}
	return strings.Join(words, " ")
}

// whole is all that a spine tells by the calls that change nothing.
func whole(s *spine.Spine) string {
	f, e := s.Top()
	return strconv.Itoa(s.Len()) + "; " + shown(f) + " " + e.Error() + "; " + numbers(s.Path()) + "; " + numbers(s.Nodes()) + "; " + shownList(s.Frames())
}

// holds asks whether a spine has just these frames, by each call that tells of them; twice, for to be asked changes nothing.
func holds(t *testing.T, s *spine.Spine, l ...api.Frame) {
	t.Helper()
	for range 2 {
		if got, want := whole(s), model(l).whole(); got != want {
			t.Errorf("%s\nnot %s", got, want)
		}
	}
}

// is asks for a number.
func is(t *testing.T, what string, got, want api.Errno) {
	t.Helper()
	if got != want {
		t.Errorf("%s: %v, not %v", what, got, want)
	}
}

// gives asks for a frame, and for a number.
func gives(t *testing.T, what string, call func() (api.Frame, api.Errno), want api.Frame, wantE api.Errno) {
	t.Helper()
	if f, e := call(); shown(f) != shown(want) || e != wantE {
		t.Errorf("%s: %s, %v, not %s, %v", what, shown(f), e, shown(want), wantE)
	}
}

// model is a spine's frames, the lowest first; what it answers it works out by the chapter's words alone, and it never changes a list that it has.
type model []api.Frame

func (m model) pushed(f api.Frame) model {
	f.Path = slices.Clone(f.Path)
	return append(slices.Clone(m), f)
}

func (m model) popped() (model, api.Frame, api.Errno) {
	if len(m) == 0 {
		return m, api.Frame{}, api.ErrSpineEmpty
	}
	return m[:len(m)-1], m[len(m)-1], api.OK
}

func (m model) turned(f api.Frame) (model, api.Errno) {
	below, _, e := m.popped()
	if e != api.OK {
		return m, e
	}
	return below.pushed(f), api.OK
}

func (m model) moved(l []int) (model, api.Errno) {
	if len(l) != len(m) {
		return m, api.ErrArg
	}
	var then model
	for i, f := range m {
		if l[i] < 0 {
			return m, api.ErrSpineNode
		}
		f.Node = l[i]
		then = append(then, f)
	}
	return then, api.OK
}

// whole is what whole tells of a spine that is as the chapter says.
func (m model) whole() string {
	var path, nodes []int
	for _, f := range m {
		nodes = append(nodes, f.Node)
		for _, n := range f.Path {
			path = append(path, n)
		}
	}
	_, f, e := m.popped()
	return strconv.Itoa(len(m)) + "; " + shown(f) + " " + e.Error() + "; " + numbers(path) + "; " + numbers(nodes) + "; " + shownList(m)
}

// odd are numbers such as no heap has addresses and no symbol arguments, and such as it may have.
func odd() []int {
	return []int{0, 1, 5, 7, 3999, 4000, 4001, -1, -2, math.MinInt, math.MaxInt}
}

// someNumber is one that a seed chooses, now and then an odd one.
func someNumber(r *rand.Rand) int {
	if r.Intn(6) == 0 {
		return odd()[r.Intn(len(odd()))]
	}
	return r.Intn(10)
}

// someFrame is one that a seed chooses; its Path is nil, empty, or has spare room.
func someFrame(r *rand.Rand) api.Frame {
	f := api.Frame{Node: someNumber(r), Whole: r.Intn(2) == 0, Next: someNumber(r)}
	if r.Intn(4) == 0 {
		return f
	}
	f.Path = make([]int, 0, r.Intn(6))
	for range r.Intn(4) {
		f.Path = append(f.Path, someNumber(r))
	}
	return f
}

// someMove is a list for Move that a seed chooses, mostly such as it takes, where there are so many frames.
func someMove(r *rand.Rand, count int) []int {
	if r.Intn(5) == 0 {
		count = max(0, count+r.Intn(3)-1)
	}
	l := make([]int, 0, count+r.Intn(3))
	for range count {
		l = append(l, r.Intn(50))
	}
	if count > 0 && r.Intn(3) == 0 {
		l[r.Intn(count)] = []int{-1, -2, math.MinInt}[r.Intn(3)]
	}
	return l
}
