package spine_test

import (
	"runtime"
	"slices"
	"testing"

	"ropewalk/api"
	"ropewalk/spine"
)

// spoil fills a list, its spare room too, with what stands nowhere else.
func spoil(l []int) {
	l = l[:cap(l)]
	for i := range l {
		l[i] = -7777
	}
}

// spoilFrames does so to a list of frames and to their Paths, its spare room included.
func spoilFrames(l []api.Frame) {
	l = l[:cap(l)]
	for i := range l {
		spoil(l[i].Path)
		l[i] = api.Frame{Node: -7777, Next: -7777, Path: []int{-7777}}
	}
}

// parts are a list with spare room behind each of its parts: three Paths that lie one behind the other in one memory, and the whole of it.
func parts() (one, two, none, all []int) {
	all = []int{1, 2, 3, 4, 5, 77, 78}
	return all[0:2], all[2:5], all[5:5], all
}

// R4: what Push is handed is neither changed nor kept, its spare room included, whatever is done behind it.
func TestPushCopies(t *testing.T) {
	one, two, none, all := parts()
	want := []api.Frame{wanted(7, 0), rigid(4, 0, 1, 2), rigid(5, 0, 3, 4, 5), rigid(6, 0), rigid(8, 0, 1, 2)}
	s := spine.New(7)
	for i, path := range [][]int{one, two, none, one} {
		s.Push(rigid([]int{4, 5, 6, 8}[i], 0, path...))
	}
	s.Path()
	s.Frames()
	if !slices.Equal(all, []int{1, 2, 3, 4, 5, 77, 78}) {
		t.Errorf("it changes %v", all)
	}
	holds(t, s, want...)
	spoil(all)
	holds(t, s, want...)
	s.Turn(rigid(1, 1, 1, 1, 1, 1))
	s.Pop()
	s.Push(rigid(2, 2, 2, 2))
	s.Move([]int{1, 2, 3, 4, 5})
	if !slices.Equal(all, slices.Repeat([]int{-7777}, 7)) {
		t.Errorf("a later call changes %v", all)
	}
}

// R4: so it is with what Turn is handed, where it is refused, too.
func TestTurnCopies(t *testing.T) {
	one, two, _, all := parts()
	s := spine.New(7)
	is(t, "Turn", s.Turn(rigid(5, 0, two...)), api.OK)
	is(t, "Turn", s.Turn(rigid(4, 0, one...)), api.OK)
	s.Path()
	s.Push(rigid(6, 0, 9))
	is(t, "Turn", (&spine.Spine{}).Turn(rigid(4, 0, one...)), api.ErrSpineEmpty)
	if !slices.Equal(all, []int{1, 2, 3, 4, 5, 77, 78}) {
		t.Errorf("it changes %v", all)
	}
	spoil(all)
	holds(t, s, rigid(4, 0, 1, 2), rigid(6, 0, 9))
	s.Pop()
	is(t, "Turn", s.Turn(rigid(1, 0, 8, 8)), api.OK)
	s.Pop()
	if !slices.Equal(all, slices.Repeat([]int{-7777}, 7)) {
		t.Errorf("a later call changes %v", all)
	}
}

// R4: so it is with what Move is handed.
func TestMoveCopies(t *testing.T) {
	all := []int{5, 6, 77, 78}
	s := spined(t, wanted(7, 0), rigid(4, 0, 1, 0))
	is(t, "Move", s.Move(all[:2]), api.OK)
	is(t, "Move", s.Move(all[:3]), api.ErrArg)
	s.Push(rigid(9, 0))
	s.Nodes()
	if !slices.Equal(all, []int{5, 6, 77, 78}) {
		t.Errorf("it changes %v", all)
	}
	spoil(all)
	holds(t, s, wanted(5, 0), rigid(6, 0, 1, 0), rigid(9, 0))
	is(t, "Move", s.Move(all[:3]), api.ErrSpineNode)
	is(t, "Move", s.Move([]int{1, 2, 3}), api.OK)
	s.Turn(rigid(4, 0))
	if !slices.Equal(all, slices.Repeat([]int{-7777}, 4)) {
		t.Errorf("a later call changes %v", all)
	}
}

// R4: what Top and Pop give out is new memory, spare room too: neither sees what is done to the other.
func TestTopAndPopCopy(t *testing.T) {
	for many := range 10 {
		path := slices.Repeat([]int{3}, many)
		s := spined(t, rigid(6, 0, path...), rigid(4, 1, path...), wanted(5, 2, path...))
		one, _ := s.Top()
		other, _ := s.Top()
		spoil(one.Path)
		holds(t, s, rigid(6, 0, path...), rigid(4, 1, path...), wanted(5, 2, path...))
		popped, _ := s.Pop()
		spoil(other.Path)
		if shown(popped) != shown(wanted(5, 2, path...)) {
			t.Errorf("two answers share memory: %s", shown(popped))
		}
		lower, _ := s.Top()
		spoil(popped.Path)
		holds(t, s, rigid(6, 0, path...), rigid(4, 1, path...))
		s.Push(wanted(9, 9, 9, 9, 9))
		s.Turn(rigid(8, 8, 8))
		s.Pop()
		s.Turn(rigid(1, 1, 1, 1, 1))
		s.Move([]int{2, 3})
		s.Pop()
		if shown(lower) != shown(rigid(4, 1, path...)) {
			t.Errorf("a later call changes an answer: %s", shown(lower))
		}
		if spoiled := slices.Repeat([]int{-7777}, many); !slices.Equal(popped.Path, spoiled) || !slices.Equal(one.Path, spoiled) {
			t.Errorf("a later call changes an answer: %s, %s", shown(popped), shown(one))
		}
	}
}

// R4: so it is with what Path and Nodes give out, where one frame alone has a Path, too.
func TestPathAndNodesCopy(t *testing.T) {
	for _, l := range [][]api.Frame{
		{rigid(4, 0, 1, 2)},
		{wanted(7, 0), rigid(4, 0, 1, 2), rigid(5, 0)},
		{rigid(7, 0, 5), rigid(4, 0, 1, 2), rigid(5, 0, 6, 6, 6)},
	} {
		s := spined(t, l...)
		path, nodes := s.Path(), s.Nodes()
		otherPath, otherNodes := s.Path(), s.Nodes()
		spoil(path)
		spoil(nodes)
		holds(t, s, l...)
		s.Push(rigid(9, 9, 9, 9))
		s.Turn(rigid(8, 8, 8))
		s.Pop()
		s.Turn(rigid(1, 1, 1))
		s.Move(make([]int, len(l)))
		tells(t, spined(t, l...), numbers(otherPath), numbers(otherNodes))
		for _, n := range append(path, nodes...) {
			if n != -7777 {
				t.Errorf("a later call changes an answer: %v, %v", path, nodes)
			}
		}
	}
}

// R4: so it is with what Frames gives out; and no two Paths of one answer share memory, where they came in as one, too.
func TestFramesCopy(t *testing.T) {
	one, two, none, _ := parts()
	s := spined(t, rigid(7, 0, one...), rigid(4, 0, one...), wanted(5, 1, two...), rigid(6, 0, none...), api.Frame{Node: 3}, rigid(4, 0, one...))
	l := []api.Frame{rigid(7, 0, 1, 2), rigid(4, 0, 1, 2), wanted(5, 1, 3, 4, 5), rigid(6, 0), rigid(3, 0), rigid(4, 0, 1, 2)}
	frames, other := s.Frames(), s.Frames()
	for i := range frames {
		again := s.Frames()
		spoil(again[i].Path)
		again[i].Node = -7777
		for j := range again {
			if j != i && shown(again[j]) != shown(l[j]) {
				t.Errorf("%d and %d share memory: %s", i, j, shownList(again))
			}
		}
	}
	spoilFrames(frames)
	holds(t, s, l...)
	s.Move([]int{1, 2, 3, 4, 5, 6})
	s.Turn(wanted(9, 9, 9, 9, 9))
	s.Pop()
	s.Push(rigid(8, 8, 8))
	if shownList(other) != shownList(l) {
		t.Errorf("a later call changes an answer: %s", shownList(other))
	}
	for _, f := range frames {
		if f.Node != -7777 || f.Next != -7777 || numbers(f.Path) != "-7777" {
			t.Errorf("a later call changes an answer: %s", shown(f))
		}
	}
}

// R4: a frame that was given out, changed and handed in again.
func TestChangedAndHandedBack(t *testing.T) {
	s := spined(t, wanted(7, 0), rigid(4, 0, 1, 0))
	f, _ := s.Top()
	f.Next++
	f.Path[0] = 5
	holds(t, s, wanted(7, 0), rigid(4, 0, 1, 0))
	is(t, "Turn", s.Turn(f), api.OK)
	s.Push(f)
	f.Path[1] = 6
	holds(t, s, wanted(7, 0), rigid(4, 1, 5, 0), rigid(4, 1, 5, 0))
	is(t, "Turn", s.Turn(f), api.OK)
	spoil(f.Path)
	holds(t, s, wanted(7, 0), rigid(4, 1, 5, 0), rigid(4, 1, 5, 6))
	for _, f := range s.Frames() {
		s.Push(f)
		spoil(f.Path)
	}
	holds(t, s, wanted(7, 0), rigid(4, 1, 5, 0), rigid(4, 1, 5, 6), wanted(7, 0), rigid(4, 1, 5, 0), rigid(4, 1, 5, 6))
}

// inUse is how many bytes somebody still holds.
func inUse() int {
	var m runtime.MemStats
	runtime.GC()
	runtime.GC()
	runtime.ReadMemStats(&m)
	return int(m.HeapAlloc)
}

// R4: a frame that is gone is not kept, nor is a list that was handed in, where it has spare room alone.
func TestKeepsNoMore(t *testing.T) {
	const many = 1 << 20 // numbers: far more bytes than whatever else a test takes
	for what, call := range map[string]func(s *spine.Spine){
		"Pop":           func(s *spine.Spine) { s.Push(rigid(1, 0, make([]int, many)...)); s.Pop() },
		"Turn":          func(s *spine.Spine) { s.Turn(rigid(1, 0, make([]int, many)...)); s.Turn(rigid(1, 0)) },
		"an empty Path": func(s *spine.Spine) { s.Push(rigid(1, 0, make([]int, 0, many)...)) },
	} {
		s := spine.New(7)
		before := inUse()
		call(s)
		if more := inUse() - before; more > many {
			t.Errorf("%s: %d bytes are kept", what, more)
		}
		runtime.KeepAlive(s)
	}
}
