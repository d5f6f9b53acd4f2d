package spine_test

import (
	"testing"

	"ropewalk/api"
	"ropewalk/spine"
)

// The chapter's examples, one behind the other.
func TestExamples(t *testing.T) {
	s := spine.New(7)
	if s.Len() != 1 || len(s.Path()) != 0 {
		t.Errorf("Len %d, Path %v", s.Len(), s.Path())
	}
	gives(t, "Top", s.Top, wanted(7, 0), api.OK)
	s.Push(rigid(4, 0, 1, 0))
	s.Push(wanted(2, 3, 2))
	if numbers(s.Path()) != "1 0 2" || numbers(s.Nodes()) != "7 4 2" {
		t.Errorf("Path %v, Nodes %v", s.Path(), s.Nodes())
	}
	is(t, "Move(1 2)", s.Move([]int{1, 2}), api.ErrArg)
	is(t, "Move(1 2 -1)", s.Move([]int{1, 2, -1}), api.ErrSpineNode)
	is(t, "Move(9 8 6)", s.Move([]int{9, 8, 6}), api.OK)
	gives(t, "Pop", s.Pop, wanted(6, 3, 2), api.OK)
	gives(t, "Pop", s.Pop, rigid(8, 0, 1, 0), api.OK)
	gives(t, "Pop", s.Pop, wanted(9, 0), api.OK)
	gives(t, "Pop", s.Pop, api.Frame{}, api.ErrSpineEmpty)
	is(t, "Turn", s.Turn(api.Frame{}), api.ErrSpineEmpty)
	if len(s.Path()) != 0 {
		t.Errorf("Path %v", s.Path())
	}
	holds(t, s)
}

// P14.1: New: one frame, for the root, whatever number that is; each time another spine.
func TestNew(t *testing.T) {
	for _, root := range odd() {
		s := spine.New(root)
		holds(t, s, wanted(root, 0))
		spine.New(root).Push(rigid(1, 2, 3))
		spine.New(root).Pop()
		is(t, "Turn", spine.New(root).Turn(rigid(1, 2, 3)), api.OK)
		holds(t, s, wanted(root, 0))
	}
}

// P14.1: Push: above the others, which stay as they were.
func TestPush(t *testing.T) {
	l := []api.Frame{wanted(7, 0)}
	s := spine.New(7)
	for _, f := range []api.Frame{rigid(4, 0, 1, 0), wanted(2, 3, 2), rigid(4, 0, 1, 0), {}, wanted(7, 0), rigid(0, 0, 5, 5, 5, 5)} {
		s.Push(f)
		l = append(l, f)
		holds(t, s, l...)
	}
}

// P14.1: Push, Turn: whatever a frame is: each number as its Node, as its Next and in its Path; with no Path, with an empty one.
func TestWhateverAFrameIs(t *testing.T) {
	frames := []api.Frame{{}, {Path: []int{}}, {Whole: true}, {Whole: true, Path: make([]int, 0, 9)}}
	for _, n := range odd() {
		frames = append(frames, rigid(n, 0), wanted(0, n), rigid(0, 0, n), wanted(n, n, n, n), rigid(1, 2, 3, n, 4))
	}
	for _, f := range frames {
		s := spine.New(3)
		s.Push(f)
		holds(t, s, wanted(3, 0), f)
		gives(t, "Top", s.Top, f, api.OK)
		gives(t, "Pop", s.Pop, f, api.OK)
		holds(t, s, wanted(3, 0))
		is(t, "Turn", s.Turn(f), api.OK)
		holds(t, s, f)
		gives(t, "Top", s.Top, f, api.OK)
		gives(t, "Pop", s.Pop, f, api.OK)
		holds(t, s)
	}
}

// P14.1: Pop: the top frame, and so on down to the lowest; then there is none, how often it may be asked.
func TestPop(t *testing.T) {
	l := []api.Frame{rigid(9, 1), wanted(4, 2, 1, 0), rigid(4, 3), wanted(2, 4, 2), rigid(5, 5, 6, 7, 8)}
	s := spined(t, l...)
	for i := len(l) - 1; i >= 0; i-- {
		gives(t, "Pop", s.Pop, l[i], api.OK)
		holds(t, s, l[:i]...)
	}
	for range 3 {
		gives(t, "Pop", s.Pop, api.Frame{}, api.ErrSpineEmpty)
		holds(t, s)
	}
}

// P14.1: Top: it stays.
func TestTop(t *testing.T) {
	l := []api.Frame{rigid(9, 1), wanted(4, 2, 1, 0), rigid(4, 3)}
	for many := 1; many <= len(l); many++ {
		s := spined(t, l[:many]...)
		for range 3 {
			gives(t, "Top", s.Top, l[many-1], api.OK)
			holds(t, s, l[:many]...)
		}
	}
	s := spined(t)
	for range 3 {
		gives(t, "Top", s.Top, api.Frame{}, api.ErrSpineEmpty)
		holds(t, s)
	}
}

// P14.1: Turn: the top frame alone is another one then, all of it: nothing of the old one stays.
func TestTurn(t *testing.T) {
	l := []api.Frame{rigid(9, 1, 5), wanted(4, 2, 1, 0), wanted(6, 3, 8, 8, 8)}
	for many := 1; many <= len(l); many++ {
		s := spined(t, l[:many]...)
		for _, f := range []api.Frame{rigid(1, 0, 2), {}, wanted(3, 7), rigid(0, 0, 1, 2, 3, 4, 5, 6), {Node: -1, Next: -1}} {
			is(t, "Turn", s.Turn(f), api.OK)
			holds(t, s, append(l[:many-1:many-1], f)...)
		}
		s.Pop()
		holds(t, s, l[:many-1]...)
	}
}

// P14.1, R2, R3: Pop, Top and Turn where there is no frame, and what they leave: a spine to which frames can be pushed still.
func TestNoFrame(t *testing.T) {
	s := spine.New(7)
	for _, n := range odd() {
		s.Pop()
		gives(t, "Pop", s.Pop, api.Frame{}, api.ErrSpineEmpty)
		gives(t, "Top", s.Top, api.Frame{}, api.ErrSpineEmpty)
		for _, f := range []api.Frame{{}, wanted(n, n, n), wanted(7, 0)} {
			is(t, "Turn", s.Turn(f), api.ErrSpineEmpty)
			holds(t, s)
		}
		s.Push(rigid(n, 1, 2))
		holds(t, s, rigid(n, 1, 2))
	}
}

// P14.1: Len: how many frames there are.
func TestLen(t *testing.T) {
	s := spine.New(7)
	for n := 1; n < 100; n++ {
		if s.Len() != n {
			t.Fatalf("Len %d, not %d", s.Len(), n)
		}
		s.Push(api.Frame{})
		s.Pop()
		s.Top()
		s.Turn(rigid(1, 1, 1, 1))
		if s.Len() != n {
			t.Fatalf("Len %d, not %d", s.Len(), n)
		}
		s.Push(rigid(n, 0, 1, 2, 3))
	}
	for n := 100; n > 0; n-- {
		if s.Len() != n {
			t.Fatalf("Len %d, not %d", s.Len(), n)
		}
		s.Pop()
	}
	if s.Len() != 0 {
		t.Errorf("Len %d", s.Len())
	}
}
