package slide

import (
	"slices"

	"ropewalk/heap"
)

// none stands where nothing that is kept leads.
const none = -1

// whatIs says, of each address that is a root, or that a kept application has as an argument, which application is there; so it says of each kept application itself. Of all others it says none.
func whatIs(h *heap.Heap, roots []int) []int {
	is := slices.Repeat([]int{none}, h.Room()) // not Used: a node of a heap that somebody copied by hand may lead farther
	open := [][]int{roots}                     // of each list the addresses that are still to be looked at
emptying:
	for len(open) > 0 {
		top := len(open) - 1
		for len(open[top]) > 0 {
			b := open[top][0]
			open[top] = open[top][1:]
			if is[b] != none { // so a long way of indirections is gone once from each address, however often that is named
				continue
			}
			a, _ := h.Resolve(b)
			isNew := is[a] == none
			is[a], is[b] = a, a
			if isNew {
				x, _ := h.At(a)
				open = append(open, x.Args)
				continue emptying
			}
		}
		open = open[:top]
	}
	return is
}

// kept are the applications that are kept, by what whatIs says: by rising addresses.
func kept(h *heap.Heap, is []int) []int {
	var l []int
	for a := range h.Used() {
		if is[a] == a {
			l = append(l, a)
		}
	}
	return l
}
