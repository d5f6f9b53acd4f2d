package code

import (
	"slices"

	"ropewalk/api"
)

// run is some code, and the node of a view at which it is run.
type run struct {
	code api.Code
	view View
	node int
}

// from runs the instructions from an index on. The index rises with each of them, so it ends.
func (r run) from(at int) (api.Found, api.Errno) {
	for at < len(r.code.Ins) {
		switch i := r.code.Ins[at]; i.Op {
		case api.OpRule:
			return api.Found{Kind: api.Fits, Rule: i.A}, api.OK
		case api.OpStuck:
			return api.Found{Kind: api.Rigid}, api.OK
		case api.OpLook:
			if isIndex(i.A, len(r.code.Paths)) {
				found, next, e := r.look(at, r.code.Paths[i.A])
				if e != api.OK || found.Kind == api.Demand {
					return found, e
				}
				at = next
				continue
			}
			// Without a path it is no better than what can't be run at all.
			fallthrough
		default:
			return api.Found{}, api.ErrCodeForm
		}
	}
	return api.Found{}, api.ErrCodeForm
}

// look does the OpLook at an index: what is demanded, or else the index at which it goes on.
func (r run) look(at int, path []int) (api.Found, int, api.Errno) {
	x, symbol, rigid, e := r.ask(path)
	if e != api.OK {
		return api.Found{}, 0, e
	}
	next, has := r.caseOf(symbol, at+1)
	switch {
	case has && r.code.Ins[next].B <= next:
		return api.Found{}, 0, api.ErrCodeForm
	case has:
		return api.Found{}, r.code.Ins[next].B, api.OK
	case hasCode(r.code, symbol) && !rigid:
		return api.Found{Kind: api.Demand, Path: slices.Clone(path), Node: x}, 0, api.OK
	}
	return api.Found{}, next, api.OK
}

// ask goes along a path: to which node it leads, what symbol that has, and whether it is known to be rigid. A view of somebody else's that gives up, as one behind a nil pointer does, is as good as none.
func (r run) ask(path []int) (x, symbol int, rigid bool, e api.Errno) {
	defer func() {
		if recover() != nil {
			x, symbol, rigid, e = 0, 0, false, api.ErrArg
		}
	}()
	x = r.node
	for _, n := range path {
		x = r.view.Arg(x, n)
	}
	symbol, rigid = r.view.Head(x)
	return x, symbol, rigid, api.OK
}

// caseOf is the index of the first OpCase that has a symbol, of those that stand from an index on; the index behind them and false, if none has it.
func (r run) caseOf(symbol, at int) (int, bool) {
	for ; at < len(r.code.Ins) && r.code.Ins[at].Op == api.OpCase; at++ {
		if r.code.Ins[at].A == symbol {
			return at, true
		}
	}
	return at, false
}
