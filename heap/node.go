package heap

import (
	"slices"

	"ropewalk/api"
)

// copied is a node that shares no memory with another one.
func copied(x api.Node) api.Node {
	x.Args = slices.Clone(x.Args)
	return x
}

// inside tells whether all of some numbers are addresses, where there are so many nodes.
func inside(count int, l ...int) bool {
	for _, a := range l {
		if a < 0 || a >= count {
			return false
		}
	}
	return true
}

func isMark(n int) bool { return api.Fresh <= n && n <= api.Settled }

// shaped tells whether each node of a list may be, taken by itself.
func shaped(l []api.Node) bool {
	for _, x := range l {
		if x.Points && !isIndirection(x, len(l)) || !x.Points && !isApplication(x, len(l)) {
			return false
		}
	}
	return true
}

func isApplication(x api.Node, count int) bool {
	return x.Symbol >= 0 && len(x.Args) <= api.MaxArity && inside(count, x.Args...) && isMark(x.Mark) && x.To == 0
}

func isIndirection(x api.Node, count int) bool {
	return x.Symbol == 0 && len(x.Args) == 0 && x.Mark == 0 && inside(count, x.To)
}
