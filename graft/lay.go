package graft

import (
	"errors"
	"slices"

	"ropewalk/api"
	"ropewalk/code"
	"ropewalk/heap"
	"ropewalk/sig"
)

// thing is what one of a list in prefix order becomes: a new application of a symbol, or an application that is there.
type thing struct {
	isNew         bool
	symbol, arity int // of a new one; one that is there has nothing behind it
	at            int // of one that is there
}

// thingsOfTerm are those of a closed term: each place is a new one.
func thingsOfTerm(s *sig.Sig, t api.Term) []thing {
	l := make([]thing, len(t))
	for i, n := range t {
		l[i], _ = newThing(s, n)
	}
	return l
}

// thingsOfParts are those of a right side, for the application at a node.
func thingsOfParts(s *sig.Sig, parts []api.Part, v code.View, node int) ([]thing, error) {
	l := make([]thing, len(parts))
	for i, p := range parts {
		x, e := thingOfPart(s, p, v, node)
		if e != api.OK {
			return nil, noThing(i, e)
		}
		l[i] = x
	}
	return l, nil
}

func thingOfPart(s *sig.Sig, p api.Part, v code.View, node int) (thing, api.Errno) {
	switch {
	case p.Symbol >= 0:
		return newThing(s, p.Symbol)
	case p.Symbol < -1:
		return thing{}, api.ErrArg
	}
	at := along(v, node, p.Path)
	if at == none {
		return thing{}, api.ErrHeapNode
	}
	return thing{at: at}, api.OK
}

func newThing(s *sig.Sig, symbol int) (thing, api.Errno) {
	x, e := s.At(symbol)
	return thing{isNew: true, symbol: symbol, arity: x.Arity}, e
}

// noThing is the Fault of a part that can't become anything. The chapter tells what it comes of only where a symbol is lacking.
func noThing(part int, why error) error {
	f := &api.Fault{Code: api.ErrGraftNode, At: part}
	if errors.Is(why, api.ErrSigNone) {
		f.Why = why
	}
	return f
}

// isOne tells whether a list is in prefix order that of one thing.
func isOne(l []thing) bool {
	lacking := 1
	for _, x := range l {
		if lacking == 0 {
			return false
		}
		lacking += x.arity - 1
	}
	return lacking == 0
}

// lay makes what is new of a list that is one thing, for which there is room: the address of the first.
func lay(h *heap.Heap, l []thing) int {
	var open []int // the addresses of what is no argument yet: that of the foremost thing is the last
	for _, x := range slices.Backward(l) {
		if !x.isNew {
			open = append(open, x.at)
			continue
		}
		rest := len(open) - x.arity
		args := open[rest:]
		slices.Reverse(args)
		a, _ := h.Make(x.symbol, args...) // it has room, and the arguments are there: so there is no error
		open = append(open[:rest], a)
	}
	return open[0]
}
