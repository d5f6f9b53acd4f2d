package graft

import (
	"ropewalk/api"
	"ropewalk/code"
	"ropewalk/heap"
)

// none stands where there is no node, and no symbol.
const none = -1

// Sight is a heap as code looks at it.
type Sight struct {
	heap *heap.Heap
}

// Of is the sight of a heap.
func Of(h *heap.Heap) Sight { return Sight{h} }

// Head is a node's symbol, and whether it is known to be rigid.
func (x Sight) Head(node int) (int, bool) {
	_, top, e := application(x.heap, node)
	if e != api.OK {
		return none, false
	}
	return top.Symbol, top.Mark == api.Firm || top.Mark == api.Settled
}

// Arg is the node that stands as an argument of one.
func (x Sight) Arg(node, n int) int {
	_, top, e := application(x.heap, node)
	if e != api.OK || n < 0 || n >= len(top.Args) {
		return none
	}
	a, _, e := application(x.heap, top.Args[n])
	if e != api.OK { // only in a heap that somebody copied by hand: its nodes may lead to such as it lacks
		return none
	}
	return a
}

// application is the application that a node is, and its address.
func application(h *heap.Heap, node int) (int, api.Node, api.Errno) {
	a, e := h.Resolve(node)
	if e != api.OK {
		return 0, api.Node{}, e
	}
	x, e := h.At(a)
	return a, x, e
}

// along is where a path leads from an application; none, if it leads nowhere.
func along(v code.View, node int, path []int) int {
	for _, n := range path {
		node = v.Arg(node, n)
	}
	return node
}
