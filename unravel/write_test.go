package unravel_test

import (
	"math"
	"slices"
	"strconv"
	"strings"
	"testing"

	"ropewalk/api"
	"ropewalk/notation"
	"ropewalk/unravel"
)

// P16.4, P16.5: the chapter's examples, and the same of the heap's other nodes.
func TestWritesExamples(t *testing.T) {
	q := example(t)
	shared, plain := "p(p(1:s(2:z),*1),*2)", "p(p(s(z),s(z)),z)"
	q.sharing(4, shared)
	q.print(4, 7, plain)
	q.print(4, 6, shared)
	q.print(4, -1, shared)
	q.sharing(0, "z")
	q.sharing(1, "s(z)")
	q.sharing(2, "p(1:s(z),*1)")
	q.sharing(3, "p(1:s(z),*1)")
	q.print(3, 5, "p(s(z),s(z))")
	q.print(3, 4, "p(1:s(z),*1)")
}

// P16.5: as many symbols as the term has, one less, none, below 0, and more than MaxTerm.
func TestMost(t *testing.T) {
	q := ask(t, app(z), app(p, 0, 0), app(p, 1, 1))
	for a, c := range []struct {
		size           int
		plain, sharing string
	}{{1, "z", "z"}, {3, "p(z,z)", "p(1:z,*1)"}, {7, "p(p(z,z),p(z,z))", "p(1:p(2:z,*2),*1)"}} {
		for _, most := range []int{c.size, c.size + 1, 300, 1999, 2000, 2001, math.MaxInt32, math.MaxInt} {
			q.print(a, most, c.plain)
		}
		for _, most := range []int{c.size - 1, 0, -1, -c.size, -2000, -2001, math.MinInt32, math.MinInt} {
			q.print(a, most, c.sharing)
		}
	}
}

// P16.5: a term of MaxTerm symbols is written, one of more never, however many are allowed.
func TestMostIsMaxTerm(t *testing.T) {
	l := append(tower(1000), app(p, 998, 999), app(p, 999, 999))
	q := ask(t, l...)
	high := func(count int) string { return strings.Repeat("s(", count) + "z" + strings.Repeat(")", count) }
	plain := "p(" + high(998) + "," + high(999) + ")"
	sharing := "p(1:" + high(998) + ",s(*1))"
	for _, most := range []int{2000, 2001, 4000, math.MaxInt} {
		q.print(1001, most, plain)
		q.print(1002, most, "p(1:"+high(999)+",*1)")
	}
	for _, most := range []int{1999, 300, 1, 0, -1} {
		q.print(1001, most, sharing)
		q.print(1002, most, "p(1:"+high(999)+",*1)")
	}
	q.sharing(1001, sharing)
	q = ask(t, tower(2000)...)
	q.print(1999, 2000, high(1999))
	q.print(2000, 2001, high(2000)) // that is how it is shared
}

// P16.5: the term is written as chapter 4 writes it, up to that chapter's longest text and beyond it.
func TestPrintIsNotations(t *testing.T) {
	q := asked{t, signatureOf(t, api.Symbol{Name: "abcdefghijkl"}, api.Symbol{Name: "m0123456789n", Arity: 6}), filled(t, app(0), app(1, 0, 0, 0, 0, 0, 0), app(1, 1, 1, 1, 1, 1, 1), app(1, 2, 2, 2, 2, 2, 2), app(1, 3, 3, 3, 3, 3, 3))}
	for a, size := range []int{1, 7, 43, 259, 1555} {
		x, err := unravel.Term(q.h, a)
		if err != nil || len(x) != size {
			t.Fatal(x, err)
		}
		plain, e := notation.PrintTerm(q.g, x)
		if a == 4 {
			if e != api.ErrNoteLong {
				t.Fatal(e)
			}
			plain = "m0123456789n(" + strings.Repeat(plainOf(t, q, 3)+",", 5) + plainOf(t, q, 3) + ")"
		}
		q.print(a, 2000, plain)
		q.print(a, size, plain)
	}
}

func plainOf(t testing.TB, q asked, a int) string {
	t.Helper()
	x, err := unravel.Print(q.g, q.h, a, api.MaxTerm)
	if err != nil {
		t.Fatal(err)
	}
	return x
}

// P16.4: numbers rise from 1 on in the order in which one comes to what they stand for, not by addresses; and what is shared may stand within what is shared.
func TestNumbersRise(t *testing.T) {
	q := ask(t,
		app(z),                       // 0
		app(r),                       // 1
		app(s, 0),                    // 2
		app(d, 1),                    // 3
		app(p, 3, 2),                 // 4
		app(p, 2, 3),                 // 5
		app(p, 4, 5),                 // 6
		app(p, 5, 4),                 // 7
		app(f, 1, 4, 0),              // 8
		app(f, 7, 8, 6),              // 9
		app(six, 1, 0, 0, 1, 2, 2),   // 10
		app(six, 10, 0, 9, 10, 9, 1), // 11
	)
	q.sharing(4, "p(d(r),s(z))")
	q.sharing(6, "p(p(1:d(r),2:s(z)),p(*2,*1))")
	q.sharing(7, "p(p(1:s(z),2:d(r)),p(*2,*1))")
	q.sharing(8, "f(1:r,p(d(*1),s(2:z)),*2)")
	q.sharing(9, "f(p(1:p(2:s(3:z),4:d(5:r)),6:p(*4,*2)),f(*5,*6,*3),p(*6,*1))")
	q.sharing(10, "six(1:r,2:z,*2,*1,3:s(*2),*3)")
	q.sharing(11, "six(1:six(2:r,3:z,*3,*2,4:s(*3),*4),*3,5:f(p(6:p(*4,7:d(*2)),8:p(*7,*4)),f(*2,*8,*3),p(*8,*6)),*1,*5,*2)")
}

// P16.4: only what stands in several places as an argument bears a number: neither what stands beneath it once, nor the root, nor what is shared elsewhere alone.
func TestWhatBearsNumbers(t *testing.T) {
	q := ask(t, app(z), app(s, 0), app(d, 1), app(p, 2, 2), app(p, 3, 3), app(f, 2, 0, 1))
	q.sharing(2, "d(s(z))")
	q.sharing(3, "p(1:d(s(z)),*1)")
	q.sharing(4, "p(1:p(2:d(s(z)),*2),*1)")
	q.sharing(5, "f(d(1:s(2:z)),*2,*1)")
}

// P16.4, P16.5: indirections are not seen, at the node that is asked and as arguments; they have no symbol that could be lacking.
func TestWritesIndirections(t *testing.T) {
	l := []api.Node{app(z), ind(0), ind(1), app(p, 1, 2), ind(3), ind(4), app(f, 5, 0, 3)}
	q := ask(t, l...)
	q.sharing(5, "p(1:z,*1)")
	q.print(5, 3, "p(z,z)")
	q.sharing(6, "f(1:p(2:z,*2),*2,*1)")
	q.print(6, 8, "f(p(z,z),z,p(z,z))")
	q.print(6, 7, "f(1:p(2:z,*2),*2,*1)")

	// Here the symbol 0, which indirections have as theirs, has arguments; and there is none where there are no symbols.
	q = asked{t, signatureOf(t, api.Symbol{Name: "t", Arity: 2}, api.Symbol{Name: "c"}), filled(t, app(1), ind(0), app(0, 1, 1), ind(2))}
	q.sharing(3, "t(1:c,*1)")
	q.print(3, 3, "t(c,c)")
	q.sharing(1, "c")
}

// P16.4, P16.5: a symbol that is lacking, another number of arguments: at the node itself, right beneath it and deep beneath, behind indirections; elsewhere they are nothing.
func TestWrongSymbols(t *testing.T) {
	for _, wrong := range []api.Node{
		app(lacking), app(lacking, 0), app(64, 0, 0), app(math.MaxInt),
		app(z, 0), app(z, 0, 0, 0, 0, 0, 0), app(s), app(s, 0, 0), app(p, 0), app(p, 0, 0, 0), app(d), app(r, 0), app(f, 0, 0), app(six), app(six, 0, 0, 0, 0, 0),
	} {
		q := ask(t,
			app(z),          // 0
			wrong,           // 1
			ind(1),          // 2
			app(s, 1),       // 3
			app(p, 0, 2),    // 4
			app(f, 0, 0, 4), // 5
			app(p, 5, 0),    // 6
			ind(6),          // 7
			app(p, 0, 0),    // 8
			app(p, 7, 8),    // 9
		)
		for _, a := range []int{1, 2, 3, 4, 5, 6, 7, 9} {
			q.noText(a, noNode)
		}
		q.sharing(0, "z")
		q.print(0, 1, "z")
		q.sharing(8, "p(1:z,*1)")
		q.print(8, 3, "p(z,z)")
		q.size(1, 1+len(wrong.Args))
		q.term(3, slices.Concat([]int{s, wrong.Symbol}, make([]int, len(wrong.Args)))...)
	}
}

// P16.4, P16.5: it is the signature as it is when it is asked: symbols may come.
func TestSignatureGrows(t *testing.T) {
	q := asked{t, signatureOf(t), filled(t, app(z), app(s, 0), app(p, 1, 0))}
	names := []string{"z", "s(z)", "p(s(1:z),*1)"}
	for count, x := range symbols()[:3] {
		for a := range names {
			if a < count {
				q.sharing(a, names[a])
			} else {
				q.noText(a, noNode)
			}
		}
		q.g.Add(x)
	}
	q.sharing(2, names[2])
	q.print(2, 4, "p(s(z),z)")
	// By another signature other names.
	q.g = signatureOf(t, api.Symbol{Name: "nil"}, api.Symbol{Name: "x1", Arity: 1}, api.Symbol{Name: "cons", Arity: 2, Defined: true})
	q.sharing(2, "cons(x1(1:nil),*1)")
	q.print(2, 4, "cons(x1(nil),nil)")
}

// greatText is how great(arity, ..) is shared at an address.
func greatText(name string, arity, a int) string {
	var open, shut strings.Builder
	open.WriteString(name + "(")
	for n := 1; n < a; n++ {
		open.WriteString(strconv.Itoa(n) + ":" + name + "(")
	}
	open.WriteString(strconv.Itoa(a) + ":z")
	for n := a; n > 0; n-- {
		shut.WriteString(strings.Repeat(",*"+strconv.Itoa(n), arity-1) + ")")
	}
	return open.String() + shut.String()
}

// P16.4, P16.5, R1, R6: graphs whose terms are far greater than they are: written once each, by numbers of one to four digits.
func TestWritesGreat(t *testing.T) {
	if x := greatText("p", 2, 3); x != "p(1:p(2:p(3:z,*3),*2),*1)" {
		t.Fatal(x)
	}
	for arity, name := range map[int]string{2: "p", 3: "f", 6: "six"} {
		q := ask(t, great(arity, api.MaxRoom)...)
		for _, a := range []int{10, 11, 12, 64, 99, 100, 101, 999, 1000, 1001, 2001, 3999} {
			want := greatText(name, arity, a)
			q.sharing(a, want)
			for _, most := range []int{-1, 0, 300, 2000, 2001, math.MaxInt} {
				q.print(a, most, want)
			}
		}
	}
}

// P16.4: many that are shared next to one another; numbers are written without zeros ahead.
func TestManyNumbers(t *testing.T) {
	var l []api.Node
	for a := range 600 {
		l = append(l, app([]int{z, r}[a%2]))
	}
	l = append(l, app(p, 599, 599))
	text := "p(1:r,*1)"
	for a := 598; a >= 0; a-- {
		top := len(l) - 1
		l = append(l, app(p, a, a), app(p, top, top+1))
		n := strconv.Itoa(600 - a)
		text = "p(" + text + ",p(" + n + ":" + symbols()[l[a].Symbol].Name + ",*" + n + "))"
	}
	q := ask(t, l...)
	q.sharing(len(l)-1, text)
	q.shared(len(l)-1, rising(0, 600)...)
	q.print(len(l)-1, 2000, text)
}
