package notation

import (
	"errors"
	"slices"
	"strconv"

	"ropewalk/api"
	"ropewalk/lex"
)

// reader goes through a text's tokens, from the left. Whatever it reads, it gives up at the first token that cannot stand where it does.
type reader struct {
	tokens []api.Token // those that are still to be read; the End is never passed but at last
}

// open is a reader of a text's tokens.
func open(text string) *reader {
	l, err := lex.Scan(text)
	var why *api.Fault
	if errors.As(err, &why) {
		panic(&api.Fault{Code: api.ErrNoteLex, At: why.At, Why: why})
	}
	return &reader{l}
}

// giveUp leaves all that is being read at one time; the face that was called answers this error.
func giveUp(code api.Errno, at int) { panic(&api.Fault{Code: code, At: at}) }

// refusal is the error of what a face recovered: none, if nothing was given up.
func refusal(recovered any) error {
	if recovered == nil {
		return nil
	}
	f, ok := recovered.(*api.Fault)
	if !ok { // a fault of the program itself, which no answer may hide
		panic(recovered)
	}
	return f
}

// next is the kind of the next token.
func (r *reader) next() int { return r.tokens[0].Kind }

// take passes the next token, which must be of one of these kinds.
func (r *reader) take(kinds ...int) api.Token {
	token := r.tokens[0]
	if !slices.Contains(kinds, token.Kind) {
		giveUp(api.ErrNoteForm, token.At)
	}
	r.tokens = r.tokens[1:]
	return token
}

// skip passes the next token, if it is of this kind.
func (r *reader) skip(kind int) bool {
	if r.next() != kind {
		return false
	}
	r.take(kind)
	return true
}

// end passes the text's end.
func (r *reader) end() { r.take(api.End) }

// row reads one thing, and another one behind each such sign.
func (r *reader) row(sign int, one func()) {
	one()
	for r.skip(sign) {
		one()
	}
}

// list reads nothing, or a row.
func (r *reader) list(sign int, one func()) {
	if r.next() != api.End {
		r.row(sign, one)
	}
}

// number reads a Number. It has at most nine digits, lex sees to that.
func (r *reader) number() int {
	n, _ := strconv.Atoi(r.take(api.Number).Text)
	return n
}

// declaration is a symbol, and where its Name stands.
type declaration struct {
	at     int
	symbol api.Symbol
}

func (r *reader) declarations() []declaration {
	var l []declaration
	r.list(api.Semi, func() {
		defined := r.defined()
		r.row(api.Comma, func() { l = append(l, r.declaration(defined)) })
	})
	return l
}

// defined reads what an item begins with: whether its symbols are defined ones.
func (r *reader) defined() bool {
	token := r.take(api.Name)
	if token.Text != con && token.Text != fun {
		giveUp(api.ErrNoteForm, token.At)
	}
	return token.Text == fun
}

func (r *reader) declaration(defined bool) declaration {
	name := r.take(api.Name)
	r.take(api.Slash)
	return declaration{name.At, api.Symbol{Name: name.Text, Arity: r.number(), Defined: defined}}
}

// word is a Name or a Variable of a term, and how many arguments stand behind it.
type word struct {
	api.Token
	args int
}

// term reads a term: its words, behind those that are there already. One list for all, since a list for each subterm would be copied as often as it is deep.
func (r *reader) term(l []word) []word {
	at := len(l)
	l = append(l, word{Token: r.take(api.Variable, api.Name)})
	if l[at].Kind == api.Name && r.skip(api.Open) {
		r.row(api.Comma, func() {
			l = r.term(l)
			l[at].args++
		})
		r.take(api.Close)
	}
	return l
}

// rule is the words of its sides.
type rule struct {
	left, right []word
}

func (r *reader) rules() []rule {
	var l []rule
	r.list(api.Semi, func() {
		left := r.term(nil)
		r.take(api.Arrow)
		l = append(l, rule{left, r.term(nil)})
	})
	return l
}

func (r *reader) path() []int {
	if r.skip(api.Star) {
		return nil
	}
	var l []int
	r.row(api.Dot, func() { l = append(l, r.number()) })
	return l
}

// move is a step of a reduction, and where its first token stands.
type move struct {
	at   int
	move api.Move
}

func (r *reader) moves() []move {
	var l []move
	r.list(api.Comma, func() {
		at := r.tokens[0].At
		path := r.path()
		r.take(api.Colon)
		l = append(l, move{at, api.Move{Path: path, Rule: r.number()}})
	})
	return l
}
