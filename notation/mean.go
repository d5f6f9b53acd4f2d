package notation

import (
	"ropewalk/api"
	"ropewalk/sig"
)

// demand gives up without a signature.
func demand(s *sig.Sig) {
	if s == nil {
		giveUp(api.ErrArg, 0)
	}
}

// symbols are those that were declared.
func symbols(read []declaration) []api.Symbol {
	if len(read) > api.MaxSymbols {
		giveUp(api.ErrNoteMany, read[api.MaxSymbols].at)
	}
	l := make([]api.Symbol, len(read))
	for i, d := range read {
		l[i] = d.symbol
	}
	return l
}

// moves are the steps that were read.
func moves(read []move) []api.Move {
	if len(read) > api.MaxMoves {
		giveUp(api.ErrNoteMany, read[api.MaxMoves].at)
	}
	l := make([]api.Move, len(read))
	for i, m := range read {
		l[i] = m.move
	}
	return l
}

// rules are those whose words were read. All names are looked at ahead of any length: a wrong one is told first, wherever it stands.
func rules(s *sig.Sig, read []rule) []api.Rule {
	if len(read) > api.MaxRules {
		giveUp(api.ErrNoteMany, read[api.MaxRules].left[0].At)
	}
	for _, x := range read {
		checkNames(s, x.left)
		checkNames(s, x.right)
	}
	l := make([]api.Rule, len(read))
	for i, x := range read {
		checkLong(x.left)
		checkLong(x.right)
		variables := numbering{}
		l[i].Left = listed(s, variables, x.left)
		l[i].Right = listed(s, variables, x.right)
	}
	return l
}

// checkNames gives up at the first Name that is called as no symbol is, or has another number of arguments.
func checkNames(s *sig.Sig, l []word) {
	for _, w := range l {
		if w.Kind != api.Name {
			continue
		}
		n, e := s.Find(w.Text)
		if e != api.OK {
			giveUp(api.ErrNoteSymbol, w.At)
		}
		if x, _ := s.At(n); x.Arity != w.args {
			giveUp(api.ErrNoteArity, w.At)
		}
	}
}

// checkLong gives up at the first word of too many.
func checkLong(l []word) {
	if len(l) > api.MaxTerm {
		giveUp(api.ErrNoteLong, l[0].At)
	}
}

// numbering has the variables' numbers, by how they are written.
type numbering map[string]int

// number is a variable's: the one that it has, or else the next one.
func (n numbering) number(variable word) int {
	if have, ok := n[variable.Text]; ok {
		return have
	}
	if len(n) == api.MaxVariables {
		giveUp(api.ErrNoteVariables, variable.At)
	}
	anew := len(n) + 1
	n[variable.Text] = anew
	return anew
}

// listed is the term of words whose names are all right.
func listed(s *sig.Sig, variables numbering, l []word) api.Term {
	t := make(api.Term, len(l))
	for i, w := range l {
		if w.Kind == api.Variable {
			t[i] = -variables.number(w)
		} else {
			t[i], _ = s.Find(w.Text)
		}
	}
	return t
}
