package unravel

import (
	"slices"

	"ropewalk/api"
	"ropewalk/heap"
	"ropewalk/sig"
)

// graph is what a node is, and all applications that stand beneath it.
type graph struct {
	root  int          // what the node is
	parts map[int]part // by addresses
	met   map[int]int  // by addresses: how often each stands as an argument of these
}

// part is an application of a graph.
type part struct {
	symbol int
	args   []int // what they are
	size   int   // how many symbols its term has, as Size tells it; 0 till its arguments' sizes are known
}

// graphOf goes to each application once. So what it costs hangs on how many there are, not on how great the term is.
func graphOf(h *heap.Heap, a int) (*graph, api.Errno) {
	if h == nil {
		return nil, api.ErrArg
	}
	g := &graph{parts: map[int]part{}, met: map[int]int{}}
	root, ok := g.gather(h, a)
	if !ok {
		return nil, api.ErrUnravelNode
	}
	g.root = root
	return g, api.OK
}

// namedGraph is a graph that can be written: its applications are such as the signature has.
func namedGraph(s *sig.Sig, h *heap.Heap, a int) (*graph, api.Errno) {
	if s == nil {
		return nil, api.ErrArg
	}
	g, e := graphOf(h, a)
	if e == api.OK && !g.isOver(s) {
		return nil, api.ErrUnravelNode
	}
	return g, e
}

// gather takes what a node is, and what stands beneath it, into the graph: the address of what it is, and whether there is such a node.
func (g *graph) gather(h *heap.Heap, b int) (int, bool) {
	a, e := h.Resolve(b)
	if e != api.OK {
		return 0, false
	}
	if p, ok := g.parts[a]; ok {
		return a, p.size > 0 // it is 0 only in a heap that somebody copied by hand: there a node may stand beneath itself
	}
	x, e := h.At(a)
	if e != api.OK { // likewise: there a node may lead to one that is lacking
		return 0, false
	}
	p := part{symbol: x.Symbol, args: make([]int, len(x.Args))}
	g.parts[a] = p
	size := 1
	for i, b := range x.Args {
		c, ok := g.gather(h, b)
		if !ok {
			return 0, false
		}
		p.args[i] = c
		g.met[c]++
		size += g.parts[c].size
	}
	p.size = min(size, api.MaxTerm+1)
	g.parts[a] = p
	return a, true
}

func (g *graph) size() int { return g.parts[g.root].size }

func (g *graph) isLong() bool { return g.size() > api.MaxTerm }

// isOver tells whether all applications have symbols of a signature, with as many arguments as these have there.
func (g *graph) isOver(s *sig.Sig) bool {
	for _, p := range g.parts {
		x, e := s.At(p.symbol)
		if e != api.OK || x.Arity != len(p.args) {
			return false
		}
	}
	return true
}

// isShared tells whether an application is met more than once.
func (g *graph) isShared(a int) bool { return g.met[a] > 1 }

// shared are the applications that are met more than once, by rising addresses.
func (g *graph) shared() []int {
	var l []int
	for a := range g.met {
		if g.isShared(a) {
			l = append(l, a)
		}
	}
	slices.Sort(l)
	return l
}

// places are what stands at each place of the root's term, which must not be long.
func (g *graph) places() []int {
	l := make([]int, 0, g.size())
	var lay func(a int)
	lay = func(a int) {
		l = append(l, a)
		for _, b := range g.parts[a].args {
			lay(b)
		}
	}
	lay(g.root)
	return l
}

// term is the root's term, which must not be long.
func (g *graph) term() api.Term {
	var t api.Term
	for _, a := range g.places() {
		t = append(t, g.parts[a].symbol)
	}
	return t
}

// placesOf are the places of the root's term, which must not be long, at which an application stands.
func (g *graph) placesOf(a int) []int {
	var l []int
	for place, b := range g.places() {
		if a == b {
			l = append(l, place)
		}
	}
	return l
}
