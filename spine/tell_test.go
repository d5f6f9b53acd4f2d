package spine_test

import (
	"math"
	"slices"
	"strconv"
	"testing"

	"ropewalk/api"
	"ropewalk/spine"
)

// tells asks for the path and for the nodes of a spine, as texts.
func tells(t *testing.T, s *spine.Spine, path, nodes string) {
	t.Helper()
	if numbers(s.Path()) != path || numbers(s.Nodes()) != nodes {
		t.Errorf("Path %v, Nodes %v, not %s, %s", s.Path(), s.Nodes(), path, nodes)
	}
}

// P14.2: all frames' Paths, the lowest one's too, and their Nodes, from the lowest on.
func TestPathAndNodes(t *testing.T) {
	for _, c := range []struct {
		l           []api.Frame
		path, nodes string
	}{
		{nil, "", ""},
		{[]api.Frame{{}}, "", "0"},
		{[]api.Frame{wanted(7, 0)}, "", "7"},
		{[]api.Frame{wanted(7, 0, 4, 5)}, "4 5", "7"},
		{[]api.Frame{rigid(7, 0, 1), rigid(6, 0, 2)}, "1 2", "7 6"},
		{[]api.Frame{rigid(6, 0, 2), rigid(7, 0, 1)}, "2 1", "6 7"},
		{[]api.Frame{rigid(1, 9), rigid(2, 9, 3, 4), rigid(3, 9), wanted(4, 9), rigid(5, 9, 5)}, "3 4 5", "1 2 3 4 5"},
		{[]api.Frame{rigid(5, 0, 1, 1), rigid(5, 0, 1, 1), rigid(5, 0, 1)}, "1 1 1 1 1", "5 5 5"},
		{[]api.Frame{rigid(-1, 0, -2, -3), rigid(0, -9), rigid(-5, 0, 0, -6)}, "-2 -3 0 -6", "-1 0 -5"},
		{[]api.Frame{rigid(math.MinInt, 0, math.MaxInt), rigid(math.MaxInt, 0, math.MinInt)}, "9223372036854775807 -9223372036854775808", "-9223372036854775808 9223372036854775807"},
	} {
		tells(t, spined(t, c.l...), c.path, c.nodes)
		holds(t, spined(t, c.l...), c.l...)
	}
}

// P14.2: what a spine tells is what it is then: behind each Push, Pop, Turn and Move.
func TestTellsWhatItIs(t *testing.T) {
	s := spine.New(7)
	tells(t, s, "", "7")
	s.Push(rigid(4, 0, 1, 0))
	tells(t, s, "1 0", "7 4")
	s.Push(rigid(2, 0, 2))
	tells(t, s, "1 0 2", "7 4 2")
	s.Turn(wanted(3, 1, 5, 6))
	tells(t, s, "1 0 5 6", "7 4 3")
	s.Turn(wanted(3, 1))
	tells(t, s, "1 0", "7 4 3")
	s.Move([]int{0, 1, 2})
	tells(t, s, "1 0", "0 1 2")
	s.Pop()
	tells(t, s, "1 0", "0 1")
	s.Pop()
	tells(t, s, "", "0")
	s.Turn(rigid(8, 0, 9))
	tells(t, s, "9", "8")
	s.Pop()
	tells(t, s, "", "")
	if len(s.Frames()) != 0 {
		t.Errorf("Frames: %s", shownList(s.Frames()))
	}
}

// P14.2: Frames: each whole, with all that it was pushed with.
func TestFrames(t *testing.T) {
	l := []api.Frame{wanted(7, 0), rigid(4, 1, 1, 0), wanted(2, 3, 2), {}, rigid(-4, -1, -1), rigid(4, 1, 1, 0)}
	for many := range len(l) + 1 {
		if got := spined(t, l[:many]...).Frames(); len(got) != many || shownList(got) != shownList(l[:many]) {
			t.Errorf("%s, not %s", shownList(got), shownList(l[:many]))
		}
	}
}

// P14.2: Frames, Nodes and Path say one thing, by long spines and long Paths too.
func TestTheySayOneThing(t *testing.T) {
	long := make([]int, 100000)
	for i := range long {
		long[i] = i
	}
	for what, s := range map[string]*spine.Spine{
		"none":       spined(t),
		"one":        spine.New(5),
		"a long one": spined(t, rigid(1, 0, long...), rigid(2, 0), rigid(3, 0, long[5:]...), wanted(4, 0, 1)),
		"many":       deep(t, 5000),
	} {
		var path, nodes []int
		frames := s.Frames()
		for _, f := range frames {
			path = append(path, f.Path...)
			nodes = append(nodes, f.Node)
		}
		if !slices.Equal(s.Path(), path) || !slices.Equal(s.Nodes(), nodes) || len(frames) != s.Len() {
			t.Errorf("%s: they differ", what)
		}
		if f, e := s.Top(); len(frames) > 0 && (shown(f) != shown(frames[len(frames)-1]) || e != api.OK) {
			t.Errorf("%s: Top: %s, %v", what, shown(f), e)
		}
	}
}

// deep is a spine with so many frames, no two of them alike.
func deep(t *testing.T, many int) *spine.Spine {
	t.Helper()
	s := spined(t)
	for i := range many {
		s.Push(nth(i))
	}
	return s
}

// nth is the frame i of a deep spine.
func nth(i int) api.Frame {
	return api.Frame{Node: i, Whole: i%3 == 0, Next: i % 7, Path: slices.Repeat([]int{i}, i%4)}
}

// P14.1, P14.2, P14.3, R1: there is no limit to how many frames a spine has.
func TestDeep(t *testing.T) {
	const many = 100000
	s := deep(t, many)
	for i, f := range s.Frames() {
		if shown(f) != shown(nth(i)) {
			t.Fatalf("the frame %d is %s, not %s", i, shown(f), shown(nth(i)))
		}
	}
	to := make([]int, many)
	for i := range to {
		to[i] = many - i
	}
	is(t, "Move", s.Move(to), api.OK)
	is(t, "Move", s.Move(to[1:]), api.ErrArg)
	to[many-1] = -1
	is(t, "Move", s.Move(to), api.ErrSpineNode)
	for i := many - 1; i >= 0; i-- {
		want := nth(i)
		want.Node = many - i
		if f, e := s.Pop(); shown(f) != shown(want) || e != api.OK || s.Len() != i {
			t.Fatalf("Pop: %s, %v, not %s, and %s are left", shown(f), e, shown(want), strconv.Itoa(s.Len()))
		}
	}
	holds(t, s)
}
