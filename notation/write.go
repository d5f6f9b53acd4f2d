package notation

import (
	"strconv"
	"strings"

	"ropewalk/api"
	"ropewalk/sig"
	"ropewalk/term"
)

// What items of declarations begin with: of constructors, of defined symbols.
const (
	con = "con"
	fun = "fun"
)

// maxWritten is the greatest number that can be read again.
const maxWritten = 999999999

// checkSymbol tells why a symbol can't be written.
func checkSymbol(x api.Symbol) api.Errno {
	if !sig.IsName(x.Name) {
		return api.ErrNoteSymbol
	}
	if x.Arity < 0 || x.Arity > maxWritten {
		return api.ErrNoteArity
	}
	return api.OK
}

// checkRule tells what is wrong with a rule's sides.
func checkRule(s *sig.Sig, x api.Rule) api.Errno {
	if e := term.Check(s, x.Left); e != api.OK {
		return e
	}
	return term.Check(s, x.Right)
}

// writer is a text that is being written.
type writer struct {
	strings.Builder
}

// short is the text, if it is none of too many bytes to be read again.
func (w *writer) short() (string, api.Errno) {
	if w.Len() > api.MaxText {
		return "", api.ErrNoteLong
	}
	return w.String(), api.OK
}

func (w *writer) number(n int) { w.WriteString(strconv.Itoa(n)) }

// between writes what parts the thing of a number from the one ahead of it, if there is one.
func (w *writer) between(number int, sign string) {
	if number > 0 {
		w.WriteString(sign)
	}
}

func (w *writer) symbols(l []api.Symbol) {
	for i, x := range l {
		if i > 0 && x.Defined == l[i-1].Defined {
			w.WriteString(", ")
		} else {
			w.between(i, "; ")
			w.item(x.Defined)
		}
		w.WriteString(x.Name)
		w.WriteString("/")
		w.number(x.Arity)
	}
}

// item writes what an item of declarations begins with.
func (w *writer) item(defined bool) {
	if defined {
		w.WriteString(fun + " ")
	} else {
		w.WriteString(con + " ")
	}
}

// term writes the term that a list begins with: the list behind it.
func (w *writer) term(s *sig.Sig, t api.Term) api.Term {
	first, rest := t[0], t[1:]
	if first < 0 {
		w.WriteString("X")
		w.number(-first)
		return rest
	}
	x, _ := s.At(first)
	w.WriteString(x.Name)
	if x.Arity == 0 {
		return rest
	}
	w.WriteString("(")
	for i := range x.Arity {
		w.between(i, ",")
		rest = w.term(s, rest)
	}
	w.WriteString(")")
	return rest
}

func (w *writer) rules(s *sig.Sig, l []api.Rule) {
	for i, x := range l {
		w.between(i, "; ")
		w.term(s, x.Left)
		w.WriteString(" -> ")
		w.term(s, x.Right)
	}
}

func (w *writer) path(path []int) {
	if len(path) == 0 {
		w.WriteString("*")
	}
	for i, n := range path {
		w.between(i, ".")
		w.number(n)
	}
}

func (w *writer) moves(l []api.Move) {
	for i, m := range l {
		w.between(i, ", ")
		w.path(m.Path)
		w.WriteString(":")
		w.number(m.Rule)
	}
}
