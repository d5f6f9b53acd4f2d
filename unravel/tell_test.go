package unravel_test

import (
	"math"
	"slices"
	"testing"

	"ropewalk/api"
)

// example is the chapter's heap.
func example(t testing.TB) asked {
	t.Helper()
	return ask(t, app(z), app(s, 0), app(p, 1, 1), ind(2), app(p, 3, 0))
}

// P16.1 to P16.3: the chapter's examples, and the same of the heap's other nodes.
func TestExamples(t *testing.T) {
	q := example(t)
	for a, size := range []int{1, 2, 5, 5, 7} {
		q.size(a, size)
	}
	q.term(0, z)
	q.term(1, s, z)
	q.term(2, p, s, z, s, z)
	q.term(3, p, s, z, s, z)
	q.term(4, p, p, s, z, s, z, z)
	q.copies(4, 1, 2, 4)
	q.copies(4, 0, 3, 5, 6)
	q.copies(4, 3, 1)
	q.copies(4, 4, 0)
	q.copies(1, 2)
	q.shared(4, 0, 1)
	q.shared(3, 1)
	q.shared(2, 1)
	q.shared(1)
	q.shared(0)
	q.noSize(9, api.ErrUnravelNode)
}

// P16.1 to P16.5: a node that is not there, as what is asked and as what is looked for; at Used, where there is room behind it, too.
func TestNoNode(t *testing.T) {
	for _, l := range [][]api.Node{nil, {app(z)}, {app(z), ind(0), ind(1), app(p, 2, 0)}} {
		q := ask(t, l...)
		for _, a := range outside(len(l)) {
			q.none(a)
			for _, b := range outside(len(l)) {
				q.noCopies(a, b, noNode)
			}
		}
	}
	l := make([]api.Node, api.MaxRoom)
	q := ask(t, l...)
	for _, a := range outside(api.MaxRoom)[:5] {
		q.noSize(a, api.ErrUnravelNode)
		q.noTerm(a, noNode)
		q.noCopies(a, 3999, noNode)
		q.noCopies(3999, a, noNode)
		q.noText(a, noNode)
	}
	q.size(3999, 1)
	q.copies(3999, 3998)
}

// P16.1 to P16.3: indirections, and such behind others, as the node that is asked, as an argument, and as what is looked for.
func TestIndirections(t *testing.T) {
	q := ask(t,
		ind(1),          // 0: to what stands behind it
		ind(4),          // 1: to an indirection, which stands behind it
		app(p, 1, 0),    // 2: p of the same twice
		ind(2),          // 3
		ind(6),          // 4
		ind(3),          // 5
		app(s, 7),       // 6
		app(z),          // 7
		app(z),          // 8
		app(f, 5, 3, 8), // 9
	)
	for _, a := range []int{6, 4, 1, 0} {
		q.size(a, 2)
		q.term(a, s, z)
		q.shared(a)
	}
	for _, a := range []int{2, 3, 5} {
		q.size(a, 5)
		q.term(a, p, s, z, s, z)
		q.shared(a, 6)
		for _, node := range []int{6, 4, 1, 0} {
			q.copies(a, node, 1, 3)
		}
		for _, node := range []int{2, 3, 5} {
			q.copies(a, node, 0)
			q.copies(9, node, 1, 6)
		}
		q.copies(a, 7, 2, 4)
		q.copies(a, 8)
		q.copies(a, 9)
	}
	q.size(9, 12)
	q.term(9, f, p, s, z, s, z, p, s, z, s, z, z)
	q.shared(9, 2, 6)
	q.copies(9, 0, 2, 4, 7, 9)
	q.copies(9, 7, 3, 5, 8, 10)
	q.copies(9, 8, 11)
	q.copies(0, 9)
}

// P16.2: of a node of itself the root alone; of one that stands nowhere none, even where its term stands there; and none of what stands above.
func TestCopies(t *testing.T) {
	q := ask(t, app(z), app(z), app(s, 0), app(s, 0), app(p, 2, 0), ind(4), app(s, 5), app(r))
	for a := range 8 {
		q.copies(a, a, 0)
	}
	q.copies(4, 5, 0)
	q.copies(5, 4, 0)
	q.copies(4, 2, 1)
	q.copies(4, 3)
	q.copies(4, 0, 2, 3)
	q.copies(4, 1)
	q.copies(4, 6)
	q.copies(4, 7)
	q.copies(6, 4, 1)
	q.copies(6, 0, 3, 4)
	q.copies(0, 4)
}

// P16.2: places rise, wherever in the heap and in whatever depth of the term the copies are.
func TestCopiesRise(t *testing.T) {
	q := ask(t, app(s, 3), app(six, 3, 0, 3, 2, 5, 3), app(p, 0, 3), app(z), app(r), ind(0))
	q.term(1, six, z, s, z, z, p, s, z, z, s, z, z)
	q.copies(1, 3, 1, 3, 4, 7, 8, 10, 11)
	q.copies(1, 0, 2, 6, 9)
	q.copies(1, 5, 2, 6, 9)
	q.copies(1, 2, 5)
	q.copies(1, 4)
}

// P16.3: twice of one application, once each of two, and more often; once is not enough, and where the arguments stand beneath something shared they are no more for it.
func TestShared(t *testing.T) {
	q := ask(t,
		app(z),          // 0
		app(p, 0, 0),    // 1: twice of one
		app(z),          // 2
		app(s, 2),       // 3
		app(d, 2),       // 4
		app(p, 3, 4),    // 5: 2 once each of two
		app(p, 5, 5),    // 6: 5 twice; 3 and 4 once, though they stand twice in the term
		app(f, 6, 1, 3), // 7: 3 by 5 and by this one
		app(s, 7),       // 8
		app(six, 8, 8, 8, 8, 8, 8),
	)
	for _, c := range []struct {
		a    int
		want []int
	}{{0, nil}, {1, []int{0}}, {2, nil}, {3, nil}, {4, nil}, {5, []int{2}}, {6, []int{2, 5}}, {7, []int{0, 2, 3, 5}}, {8, []int{0, 2, 3, 5}}, {9, []int{0, 2, 3, 5, 8}}} {
		q.shared(c.a, c.want...)
	}
	q.size(6, 11)
	q.copies(6, 2, 3, 5, 8, 10)
	q.copies(6, 3, 2, 7)
}

// P16.3: what is not beneath counts for nothing; nor does the node that is asked, however often it is an argument elsewhere.
func TestSharedByWhatIsBeneath(t *testing.T) {
	q := ask(t, app(z), app(s, 0), app(p, 1, 1), app(p, 0, 0), ind(1), app(p, 4, 0))
	q.shared(1)
	q.shared(4)
	q.shared(0)
	q.shared(2, 1)
	q.shared(3, 0)
	q.shared(5, 0)
}

// P16.3: an argument by way of indirections is what they are: by one, by several unlike ones; the indirections themselves are not told.
func TestSharedByIndirections(t *testing.T) {
	q := ask(t, app(z), ind(0), ind(1), app(p, 1, 1), app(p, 1, 2), app(p, 2, 0), app(s, 1), ind(4), ind(7))
	for _, a := range []int{3, 4, 5, 7, 8} {
		q.shared(a, 0)
		q.copies(a, 0, 1, 2)
	}
	q.shared(6)
	q.shared(1)
}

// P16.1 to P16.3 know no signature: symbols of whatever number, with as many arguments as they have.
func TestWithoutSignature(t *testing.T) {
	q := ask(t, app(lacking), app(math.MaxInt, 0, 0, 0), app(z, 1, 0), app(z), app(64, 2, 3, 3))
	q.size(4, 9)
	q.term(4, 64, z, math.MaxInt, lacking, lacking, lacking, lacking, z, z)
	q.copies(4, 0, 3, 4, 5, 6)
	q.shared(4, 0, 3)
	q.size(1, 4)
}

// P16.1 to P16.3: marks, and whether symbols are defined, are nothing here.
func TestMarks(t *testing.T) {
	for mark := range 3 {
		q := ask(t, marked(mark, r), marked(2-mark, d, 0), marked(mark, p, 1, 1))
		q.size(2, 5)
		q.term(2, p, d, r, d, r)
		q.copies(2, 0, 2, 4)
		q.shared(2, 1)
		q.sharing(2, "p(1:d(r),*1)")
		q.print(2, 5, "p(d(r),d(r))")
	}
}

// tower is z, with that many s above it, each at the address behind the one beneath it.
func tower(count int) []api.Node {
	l := []api.Node{app(z)}
	for a := range count {
		l = append(l, app(s, a))
	}
	return l
}

// rising are the numbers from one on, up to another.
func rising(from, end int) []int {
	var l []int
	for n := from; n < end; n++ {
		l = append(l, n)
	}
	return l
}

// P16.1, P16.2: terms of about MaxTerm symbols, one beneath the other.
func TestLongByDepth(t *testing.T) {
	q := ask(t, tower(3999)...)
	for size := 1995; size <= 2000; size++ {
		q.size(size-1, size)
		q.term(size-1, append(slices.Repeat([]int{s}, size-1), z)...)
		q.copies(size-1, 0, size-1)
		q.copies(size-1, size-1, 0)
		q.copies(size-1, 3999)
	}
	for _, a := range []int{2000, 2001, 2002, 3000, 3999} {
		q.size(a, 2001)
		q.noTerm(a, tooFar)
		for _, node := range []int{0, a, 3999} {
			q.noCopies(a, node, tooFar)
		}
		q.shared(a)
	}
}

// P16.1, P16.2: terms of about MaxTerm symbols that are shared, by way of indirections, too: 1999, 2000, 2001, 2002, 2003.
func TestLongByWidth(t *testing.T) {
	l := tower(1000) // of 998 is a term of 999 symbols, of 1000 one of 1001
	l = append(l, ind(998), ind(999), ind(1000))
	top := len(l)
	l = append(l, app(p, 998, 1001), app(p, 1001, 1002), app(p, 999, 1002), app(p, 999, 1000), app(p, 1003, 1000))
	q := ask(t, l...)
	one, other := slices.Repeat([]int{s}, 998), slices.Repeat([]int{s}, 999)
	q.size(top, 1999)
	q.term(top, slices.Concat([]int{p}, one, []int{z}, one, []int{z})...)
	q.copies(top, 0, 999, 1998)
	q.shared(top, 998)
	q.size(top+1, 2000)
	q.term(top+1, slices.Concat([]int{p}, one, []int{z}, other, []int{z})...)
	q.copies(top+1, 0, 999, 1999)
	q.copies(top+1, 998, 1, 1001)
	q.shared(top+1, 998)
	for n := 2; n < 5; n++ {
		q.size(top+n, 2001)
		q.noTerm(top+n, tooFar)
		q.noCopies(top+n, top+n, tooFar)
		q.noCopies(top+n, 1, tooFar)
	}
	q.shared(top+2, 999)
	q.shared(top+3, 999)
	q.shared(top+4, 1000)
}

// great is a heap whose terms are far greater than it: at a stands one whose arguments, as many as that, are all what stands at a-1.
func great(arity, count int) []api.Node {
	symbol := []int{z, s, p, f, r, r, six}[arity]
	l := []api.Node{app(z)}
	for a := range count - 1 {
		l = append(l, app(symbol, slices.Repeat([]int{a}, arity)...))
	}
	return l
}

// P16.1 to P16.3, R1: graphs whose terms are far greater than they are: nothing is counted beyond MaxTerm, and no term is unravelled.
func TestGreat(t *testing.T) {
	for _, arity := range []int{2, 3, 6} {
		q := ask(t, great(arity, api.MaxRoom)...)
		size := 1
		for a := range 12 {
			q.size(a, min(size, 2001))
			size = arity*size + 1
		}
		for _, a := range []int{20, 31, 32, 33, 62, 63, 64, 65, 100, 1999, 2000, 2001, 3998, 3999} {
			q.size(a, 2001)
			q.noTerm(a, tooFar)
			q.noCopies(a, a, tooFar)
			q.noCopies(a, 0, tooFar)
			q.shared(a, rising(0, a)...)
		}
	}
	q := ask(t, great(2, 12)...)
	q.size(9, 1023)
	q.size(10, 2001) // 2047
	q.noTerm(10, tooFar)
	q.copies(9, 7, 2, 257, 513, 768)
	q.copies(9, 8, 1, 512)
	q.copies(9, 10)
}

// P16.2, R2: a node that is not there ahead of a term that is too long.
func TestFirstFault(t *testing.T) {
	q := ask(t, great(2, 40)...)
	for _, a := range outside(40) {
		q.noCopies(39, a, noNode)
		q.noCopies(a, 39, noNode)
		q.noCopies(a, a, noNode)
	}
	q.noCopies(39, 0, tooFar)
	q.noCopies(39, 39, tooFar)
	q.copies(0, 39)
}

// P16.1 to P16.3, R1: all of a heap one beneath the other, by applications and indirections in turns; and a long way of indirections at each argument.
func TestDeep(t *testing.T) {
	l := []api.Node{app(z)}
	for a := 1; a < api.MaxRoom; a++ {
		if a%2 == 1 {
			l = append(l, ind(a-1))
		} else {
			l = append(l, app(s, a-1))
		}
	}
	q := ask(t, l...)
	q.size(3999, 2000)
	q.term(3999, append(slices.Repeat([]int{s}, 1999), z)...)
	q.copies(3999, 1, 1999)
	q.copies(3999, 3998, 0)
	q.shared(3999)

	l = []api.Node{app(z)}
	for a := 1; a < 2000; a++ {
		l = append(l, ind(a-1))
	}
	for a := 2000; a < api.MaxRoom; a++ {
		l = append(l, app(f, 1999, a-1, 1999))
	}
	q = ask(t, l...)
	q.size(2000, 4)
	q.size(2001, 7)
	q.size(2665, 1999)
	q.size(2666, 2001)
	q.shared(3999, 0)
	q.copies(2001, 1999, 1, 3, 4, 5, 6)
	q.copies(2001, 2000, 2)
}
