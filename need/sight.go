package need

import (
	"ropewalk/api"
	"ropewalk/code"
	"ropewalk/system"
)

// sight is a closed term as its system's code looks at it, and what has been found out of it.
type sight struct {
	code.View // the term alone: its nodes are the term's places
	code      api.Code
	rigid     []bool // of each place, whether it is known to be rigid
	from      int    // all places ahead of this one are rigid
}

func sightOf(y *system.System, t api.Term) *sight {
	v := &sight{code: y.Code()}
	v.turn(y, t)
	return v
}

// turn lets it look at another term: at first at any, then at what comes of contracting the needed place. What stands ahead of that and is rigid stays so, and stays where it is: it is not looked at again.
func (v *sight) turn(y *system.System, t api.Term) {
	v.View, v.rigid = code.Over(y.Sig(), t), make([]bool, len(t))
}

// Head is the symbol at a place, and whether it is known that the place is rigid.
func (v *sight) Head(at int) (int, bool) {
	symbol, _ := v.View.Head(at)
	return symbol, v.rigid[at]
}

// walk is what a walk from a place comes to, so far as it is known what is rigid.
func (v *sight) walk(at int) api.Found {
	symbol, _ := v.Head(at)
	found, e := code.Run(v.code, symbol, v, at)
	if e == api.ErrCodeSymbol { // a constructor has no code: no rule will ever fit there
		return api.Found{Kind: api.Rigid}
	}
	return found
}

// needed is the needed redex of the term; false: there is none. In prefix order what is rigid is followed by its arguments, the first one first: so the needed place is that of the first subterm whose root is not rigid.
func (v *sight) needed() (api.Redex, bool) {
	for ; v.from < len(v.rigid); v.from++ {
		if x, found := v.neededAt(v.from); found {
			return x, true
		}
	}
	return api.Redex{}, false
}

// neededAt is the needed redex of the subterm at a place whose root is not rigid; false: it is rigid.
func (v *sight) neededAt(at int) (api.Redex, bool) {
	spine := []int{at} // as the machine's: each place hangs on the one behind it
	for {
		switch found := v.walk(at); found.Kind {
		case api.Fits:
			return api.Redex{Place: at, Rule: found.Rule}, true
		case api.Demand:
			at = found.Node
			spine = append(spine, at)
		default:
			v.setRigid(spine)
			return api.Redex{}, false
		}
	}
}

// setRigid keeps that places are rigid, so that no walk goes there again: what hangs on a rigid place is rigid, too.
func (v *sight) setRigid(places []int) {
	for _, at := range places {
		v.rigid[at] = true
	}
}
