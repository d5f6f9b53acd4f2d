package spine_test

import (
	"math"
	"slices"
	"testing"

	"ropewalk/api"
	"ropewalk/spine"
)

// P14.3: the frames' Nodes are the list's, the lowest one's first; all else of each frame stays.
func TestMove(t *testing.T) {
	l := []api.Frame{wanted(7, 0), rigid(4, 1, 1, 0), wanted(2, 3, 2), rigid(-4, -1, -1), {}}
	s := spined(t, l...)
	for _, to := range [][]int{{9, 8, 6, 5, 4}, {0, 0, 0, 0, 0}, {4, 3, 2, 1, 0}, {1, 1, math.MaxInt, 1, 4001}} {
		is(t, "Move", s.Move(to), api.OK)
		holds(t, s, wanted(to[0], 0), rigid(to[1], 1, 1, 0), wanted(to[2], 3, 2), rigid(to[3], -1, -1), rigid(to[4], 0))
	}
	for _, want := range []api.Frame{rigid(4001, 0), rigid(1, -1, -1), wanted(math.MaxInt, 3, 2), rigid(1, 1, 1, 0), wanted(1, 0)} {
		gives(t, "Pop", s.Pop, want, api.OK)
	}
}

// P14.3: a spine with one frame: any address from 0 on.
func TestMoveOne(t *testing.T) {
	s := spined(t, rigid(-7, 5, 3, 4))
	for _, a := range []int{0, 1, 3999, 4000, math.MaxInt} {
		is(t, "Move", s.Move([]int{a}), api.OK)
		holds(t, s, rigid(a, 5, 3, 4))
	}
	for _, a := range []int{-1, -2, math.MinInt} {
		is(t, "Move", s.Move([]int{a}), api.ErrSpineNode)
		holds(t, s, rigid(math.MaxInt, 5, 3, 4))
	}
	for _, to := range [][]int{nil, {}, {0, 0}, {0, -1}} {
		is(t, "Move", s.Move(to), api.ErrArg)
		holds(t, s, rigid(math.MaxInt, 5, 3, 4))
	}
}

// P14.3: a spine without frames: none is as many as there are.
func TestMoveNone(t *testing.T) {
	for _, s := range []*spine.Spine{spined(t), {}} {
		for _, to := range [][]int{nil, {}, make([]int, 0, 5)} {
			is(t, "Move", s.Move(to), api.OK)
			holds(t, s)
		}
		for _, to := range [][]int{{0}, {-1}, {1, 2}} {
			is(t, "Move", s.Move(to), api.ErrArg)
			holds(t, s)
		}
	}
}

// P14.3, R2, R3: too few and too many, ahead of one below 0; one below 0, wherever it stands; nothing of what is refused stays.
func TestMoveRefused(t *testing.T) {
	l := []api.Frame{wanted(7, 0), rigid(4, 1, 1, 0), wanted(2, 3, 2)}
	s := spined(t, l...)
	for _, c := range []struct {
		to []int
		e  api.Errno
	}{
		{nil, api.ErrArg},
		{[]int{}, api.ErrArg},
		{[]int{1}, api.ErrArg},
		{[]int{1, 2}, api.ErrArg},
		{[]int{1, 2, 3, 4}, api.ErrArg},
		{make([]int, 5000), api.ErrArg},
		{[]int{-1}, api.ErrArg},
		{[]int{-1, 2}, api.ErrArg},
		{[]int{1, -2}, api.ErrArg},
		{[]int{-1, -1, -1, -1}, api.ErrArg},
		{[]int{1, 2, 3, -4}, api.ErrArg},
		{[]int{-1, 2, 3}, api.ErrSpineNode},
		{[]int{1, -1, 3}, api.ErrSpineNode},
		{[]int{1, 2, -1}, api.ErrSpineNode},
		{[]int{1, 2, math.MinInt}, api.ErrSpineNode},
		{[]int{-1, -1, -1}, api.ErrSpineNode},
		{slices.Repeat([]int{1}, 6)[:2], api.ErrArg},
	} {
		is(t, "Move of "+numbers(c.to), s.Move(c.to), c.e)
		holds(t, s, l...)
	}
	is(t, "Move", s.Move([]int{1, 2, 3}), api.OK)
	holds(t, s, wanted(1, 0), rigid(2, 1, 1, 0), wanted(3, 3, 2))
}

// P14.3: as many as there are frames then: behind a Push one more, behind a Pop one less.
func TestMoveByLen(t *testing.T) {
	s := spine.New(7)
	for n := range 20 {
		is(t, "Move", s.Move(make([]int, n)), api.ErrArg)
		is(t, "Move", s.Move(make([]int, n+1)), api.OK)
		is(t, "Move", s.Move(make([]int, n+2)), api.ErrArg)
		s.Push(rigid(n, n, n))
	}
	for n := 20; n >= 0; n-- {
		s.Pop()
		is(t, "Move", s.Move(make([]int, n+1)), api.ErrArg)
		is(t, "Move", s.Move(make([]int, n)), api.OK)
	}
}

// P14.3: what is popped and pushed behind a Move has its own Node; what was told ahead of it stays as it was told.
func TestMoveBetween(t *testing.T) {
	s := spined(t, wanted(7, 0), rigid(4, 1, 1, 0))
	top, _ := s.Top()
	nodes, frames := s.Nodes(), s.Frames()
	is(t, "Move", s.Move([]int{1, 2}), api.OK)
	if shown(top) != shown(rigid(4, 1, 1, 0)) || numbers(nodes) != "7 4" || shownList(frames) != shownList([]api.Frame{wanted(7, 0), rigid(4, 1, 1, 0)}) {
		t.Errorf("Move changes what was told: %s; %v; %s", shown(top), nodes, shownList(frames))
	}
	s.Push(top)
	holds(t, s, wanted(1, 0), rigid(2, 1, 1, 0), rigid(4, 1, 1, 0))
	s.Pop()
	is(t, "Turn", s.Turn(top), api.OK)
	holds(t, s, wanted(1, 0), rigid(4, 1, 1, 0))
}
