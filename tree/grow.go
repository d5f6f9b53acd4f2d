package tree

import (
	"slices"

	"ropewalk/api"
	"ropewalk/rules"
	"ropewalk/sig"
	"ropewalk/term"
)

// node is one of a case tree that is being made. Of its pattern it has what matters: the paths to its variables, in prefix order.
type node struct {
	sig   *sig.Sig
	paths [][]int
	rows  []row // by rising numbers of rules
}

// row is a rule of a node: its left side, and the places there to which the node's paths lead.
type row struct {
	rule   int
	left   api.Term
	places []int
}

// rootOf is the root of a symbol's case tree, by the rules of a store.
func rootOf(s *sig.Sig, r *rules.Store, symbol int) node {
	above := node{sig: s, paths: [][]int{{}}}
	for _, rule := range r.Of(symbol) {
		x, _ := r.At(rule)
		// The signature that a store took may be another one by now; a rule that is no term of it is no instance of a pattern of it.
		if term.Check(s, x.Left) == api.OK {
			above.rows = append(above.rows, row{rule, x.Left, []int{0}})
		}
	}
	// The pattern above is a variable alone, in whose place the symbol comes as constructors come farther down.
	return above.kid(0, symbol, above.rows)
}

// grow is the case tree from a node on. Where it forks, all that is being made is given up at one time.
func (n node) grow() api.Case {
	column := n.parting()
	switch {
	case len(n.rows) == 0:
		return api.Case{Kind: api.Fail}
	case column >= 0:
		return n.branch(column)
	case len(n.rows) == 1:
		return api.Case{Kind: api.Leaf, Rule: n.rows[0].rule}
	}
	panic(&api.Fault{Code: api.ErrTreeFork, At: n.rows[0].rule})
}

// forkOf is the Fault by which grow gave up.
func forkOf(recovered any) error {
	f, ok := recovered.(*api.Fault)
	if !ok { // a fault of the program itself, which no answer may hide
		panic(recovered)
	}
	return f
}

// parting is which of the paths is the first that leads to a constructor in each of the rules; -1, if there is none.
func (n node) parting() int {
	for column := range n.paths {
		isOpen := func(x row) bool { return isVariable(x.number(column)) }
		if !slices.ContainsFunc(n.rows, isOpen) {
			return column
		}
	}
	return -1
}

// branch parts the rules by what stands at one of the paths.
func (n node) branch(column int) api.Case {
	c := api.Case{Kind: api.Branch, Path: slices.Clone(n.paths[column])}
	for symbol := range n.sig.Len() {
		if rows := n.having(column, symbol); len(rows) > 0 {
			c.Kids = append(c.Kids, api.Kid{Symbol: symbol, Case: n.kid(column, symbol, rows).grow()})
		}
	}
	return c
}

// having are the rules that have a symbol at one of the paths.
func (n node) having(column, symbol int) []row {
	var l []row
	for _, x := range n.rows {
		if x.number(column) == symbol {
			l = append(l, x)
		}
	}
	return l
}

// kid is the node of some of the rules, in whose pattern a symbol, with variables as its arguments, stands where one of the paths leads.
func (n node) kid(column, symbol int, rows []row) node {
	head, _ := n.sig.At(symbol)
	below := make([][]int, head.Arity)
	for i := range head.Arity {
		below[i] = slices.Concat(n.paths[column], []int{i})
	}
	k := node{sig: n.sig, paths: replaced(n.paths, column, below)}
	for _, x := range rows {
		args, _ := term.Args(n.sig, x.left, x.places[column])
		k.rows = append(k.rows, row{x.rule, x.left, replaced(x.places, column, args)})
	}
	return k
}

// number is what stands in a rule's left side where one of the node's paths leads.
func (x row) number(column int) int { return x.left[x.places[column]] }

// replaced is a list with others in the place of one of its elements, in new memory.
func replaced[E any](l []E, at int, others []E) []E {
	return slices.Concat(l[:at], others, l[at+1:])
}
