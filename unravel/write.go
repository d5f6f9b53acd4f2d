package unravel

import (
	"strconv"
	"strings"

	"ropewalk/sig"
)

// plain writes the root's term, which must not be long.
func (g *graph) plain(s *sig.Sig) string {
	return g.text(s, func(int) bool { return false })
}

// sharing writes each application once: so it is short, however great the term is.
func (g *graph) sharing(s *sig.Sig) string {
	return g.text(s, g.isShared)
}

// text writes the root's term from the left. What isNumbered holds of bears a number where one comes to it first, and is that number alone wherever one comes to it again.
func (g *graph) text(s *sig.Sig, isNumbered func(a int) bool) string {
	var w strings.Builder
	numbers := map[int]int{} // by addresses: of what one came to
	var write func(a int)
	write = func(a int) {
		if n, again := numbers[a]; again {
			w.WriteString("*" + strconv.Itoa(n))
			return
		}
		if isNumbered(a) {
			numbers[a] = len(numbers) + 1
			w.WriteString(strconv.Itoa(numbers[a]) + ":")
		}
		x, _ := s.At(g.parts[a].symbol) // it is there: a graph that is written was held against the signature
		w.WriteString(x.Name)
		for i, b := range g.parts[a].args {
			w.WriteString(sign(i))
			write(b)
		}
		if len(g.parts[a].args) > 0 {
			w.WriteString(")")
		}
	}
	write(g.root)
	return w.String()
}

// sign is what stands ahead of the argument of a number.
func sign(n int) string {
	if n == 0 {
		return "("
	}
	return ","
}
