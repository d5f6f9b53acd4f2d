package rewrite_test

import (
	"math"
	"slices"
	"strconv"
	"strings"
	"testing"

	"ropewalk/api"
	"ropewalk/notation"
	"ropewalk/system"
)

// asked is a system, and a test that asks about terms that are written out.
type asked struct {
	t testing.TB
	y *system.System
}

// at asks At of a term that is written out; "none": no rule fits.
func (q asked) at(text string, place int, want string) {
	q.t.Helper()
	got := at(q.t, q.y, read(q.t, q.y, text), place)
	if want == "none" {
		want = "0 false"
	} else if !strings.Contains(want, "@") {
		want += " true"
	} else {
		want = "0 false " + want
	}
	if got != want {
		q.t.Errorf("At of %s, %d: %s, not %s", text, place, got, want)
	}
}

// becomes asks Contract for a term and a rule.
func (q asked) becomes(text string, place int, want string, rule int) {
	q.t.Helper()
	q.contract(text, place, numbers(read(q.t, q.y, want))+" "+strconv.Itoa(rule))
}

// stays asks Contract for a refusal.
func (q asked) stays(text string, place int, refusal string) {
	q.t.Helper()
	q.contract(text, place, "[] 0 "+refusal)
}

func (q asked) contract(text string, place int, want string) {
	q.t.Helper()
	if got := contract(q.t, q.y, read(q.t, q.y, text), place); got != want {
		q.t.Errorf("Contract of %s, %d: %s, not %s", text, place, got, want)
	}
}

// redexes asks for all redexes of a term, for the first that lies in no other one, and the first in which no other one lies: "" where there is none.
func (q asked) redexes(text, all, outermost, innermost string) {
	q.t.Helper()
	l := read(q.t, q.y, text)
	one := func(redex string) string {
		if redex == "" {
			return "0:0 false"
		}
		return redex + " true"
	}
	for _, c := range []struct{ call, got, want string }{
		{"Redexes", redexes(q.t, q.y, l), all},
		{"Normal", normal(q.t, q.y, l), strconv.FormatBool(all == "")},
		{"Outer", outer(q.t, q.y, l), one(outermost)},
		{"Inner", inner(q.t, q.y, l), one(innermost)},
	} {
		if c.got != c.want {
			q.t.Errorf("%s of %s: %s, not %s", c.call, text, c.got, c.want)
		}
	}
}

// P18.1 to P18.4: the chapter's examples.
func TestExamples(t *testing.T) {
	q := asked{t, made(t, "con z/0, s/1, p/2; fun d/1, r/0, add/2", "d(X) -> p(X,X); r -> z; add(z,Y) -> Y; add(s(X),Y) -> s(add(X,Y))")}
	q.redexes("d(add(z,r))", "0:0 1:2 3:1", "0:0", "3:1")
	q.at("d(add(z,r))", 1, "2")
	q.at("d(add(z,r))", 2, "none")
	q.at("d(add(z,r))", 4, "181@0")
	q.becomes("d(add(z,r))", 1, "d(r)", 2)
	q.stays("d(add(z,r))", 2, "182@2")
	q.becomes("d(add(z,r))", 0, "p(add(z,r),add(z,r))", 0)
	q.redexes("p(z,s(z))", "", "", "")
	q.redexes("add(p(z,z),z)", "", "", "")
	is(t, "Redexes", api.Term{s, -1}, redexes(t, q.y, api.Term{s, -1}), "180@0")
	is(t, "Redexes", api.Term{s}, redexes(t, q.y, api.Term{s}), "180@0 23")
	is(t, "Contract", api.Term{d, add, z, r}, contract(t, q.y, api.Term{d, add, z, r}, 1), "[3 4] 2")
	is(t, "Contract", api.Term{d, add, z, r}, contract(t, q.y, api.Term{d, add, z, r}, 0), "[2 5 0 4 5 0 4] 0")
}

// refuses asks all calls for the same refusal, at whatever place.
func refuses(t testing.TB, y *system.System, l api.Term, want string) {
	t.Helper()
	is(t, "Redexes", l, redexes(t, y, l), want)
	is(t, "Normal", l, normal(t, y, l), "false "+want)
	is(t, "Outer", l, outer(t, y, l), "0:0 false "+want)
	is(t, "Inner", l, inner(t, y, l), "0:0 false "+want)
	for _, place := range []int{math.MinInt, -1, 0, 1, len(l) - 1, len(l), len(l) + 1, math.MaxInt} {
		is(t, "At", l, at(t, y, l, place), "0 false "+want)
		is(t, "Contract", l, contract(t, y, l, place), "[] 0 "+want)
	}
}

// P18.1: a list that is no term, and what term.Check tells of it; a term with a variable, of which that tells nothing; and both ahead of the place.
func TestNoClosedTerm(t *testing.T) {
	y := full(t)
	for _, c := range []struct {
		l    api.Term
		want string
	}{
		{nil, "180@0 23"},
		{api.Term{}, "180@0 23"},
		{api.Term{s}, "180@0 23"},
		{api.Term{p, z}, "180@0 23"},
		{api.Term{z, z}, "180@0 23"},
		{api.Term{r, r}, "180@0 23"},
		{api.Term{d, r, z}, "180@0 23"},
		{api.Term{s, -1, -1}, "180@0 23"}, // no term, whatever its variables are
		{api.Term{lacking}, "180@0 21"},
		{api.Term{d, lacking}, "180@0 21"},
		{api.Term{lacking, -100, s}, "180@0 21"},
		{api.Term{math.MaxInt}, "180@0 21"},
		{api.Term{-100}, "180@0 22"},
		{api.Term{p, r, -100}, "180@0 22"},
		{api.Term{-100, lacking}, "180@0 22"},
		{api.Term{math.MinInt, z}, "180@0 22"},
		{chain(2001, s, z), "180@0 20"},
		{chain(2001, lacking, -100), "180@0 20"},
		{chain(2001, s, -1), "180@0 20"},
		{api.Term{-1}, "180@0"},
		{api.Term{-99}, "180@0"},
		{api.Term{d, -1}, "180@0"},
		{api.Term{p, r, -7}, "180@0"},
		{api.Term{p, -7, r}, "180@0"},
		{api.Term{k, r, -1}, "180@0"}, // no redex, though the rule's left side would be met, were it closed
		{chain(2000, d, -1), "180@0"},
	} {
		refuses(t, y, c.l, c.want)
	}
}

// P18.1: a place below 0, one at the term's length, beyond it; and each within is one.
func TestPlaces(t *testing.T) {
	y := full(t)
	for _, text := range []string{"z", "r", "d(add(z,r))", "six(z,r,z,r,z,r)", "g(r,r,r,r,r,r)"} {
		l := read(t, y, text)
		for _, place := range []int{math.MinInt, -1000, -2, -1, len(l), len(l) + 1, len(l) + 1000, math.MaxInt} {
			is(t, "At", l, at(t, y, l, place), "0 false 181@0")
			is(t, "Contract", l, contract(t, y, l, place), "[] 0 181@0")
		}
		for place := range l {
			if got := at(t, y, l, place); strings.Contains(got, "@") {
				t.Errorf("At of %s, %d: %s", text, place, got)
			}
			if got := contract(t, y, l, place); strings.Contains(got, "181") {
				t.Errorf("Contract of %s, %d: %s", text, place, got)
			}
		}
	}
}

// P18.2, P18.4: redexes at the root, within others, beside others, and none.
func TestRedexes(t *testing.T) {
	q := asked{t, full(t)}
	for _, c := range []struct{ text, all, outermost, innermost string }{
		{"z", "", "", ""},
		{"s(p(z,six(z,z,z,z,z,z)))", "", "", ""},
		{"g(z,z,z,z,z,z)", "", "", ""},
		{"add(p(z,z),s(z))", "", "", ""},
		{"add(add(p(z,z),z),z)", "", "", ""},
		{"f(z,s(z),z)", "", "", ""},
		{"f(p(z,z),z,z)", "", "", ""},
		{"r", "0:1", "0:1", "0:1"},
		{"loop", "0:6", "0:6", "0:6"},
		{"s(r)", "1:1", "1:1", "1:1"},
		{"d(z)", "0:0", "0:0", "0:0"},
		{"d(d(d(z)))", "0:0 1:0 2:0", "0:0", "2:0"},
		{"d(s(d(s(z))))", "0:0 2:0", "0:0", "2:0"},
		{"p(r,r)", "1:1 2:1", "1:1", "1:1"},
		{"p(d(z),d(r))", "1:0 3:0 4:1", "1:0", "1:0"},
		{"p(d(r),d(z))", "1:0 2:1 3:0", "1:0", "2:1"},
		{"p(d(s(z)),r)", "1:0 4:1", "1:0", "1:0"},
		{"six(z,r,z,d(r),r,d(z))", "2:1 4:0 5:1 6:1 7:0", "2:1", "2:1"},
		{"g(d(d(z)),r,r,r,r,r)", "1:0 2:0 4:1 5:1 6:1 7:1 8:1", "1:0", "2:0"},
		{"add(r,d(z))", "1:1 2:0", "1:1", "1:1"},
		{"add(r,z)", "1:1", "1:1", "1:1"},
		{"add(z,z)", "0:2", "0:2", "0:2"},
		{"add(s(z),z)", "0:3", "0:3", "0:3"},
		{"add(s(r),r)", "0:3 2:1 3:1", "0:3", "2:1"},
		{"add(add(z,z),add(z,r))", "1:2 4:2 6:1", "1:2", "1:2"},
		{"k(k(z,r),loop)", "0:4 1:4 3:1 4:6", "0:4", "3:1"},
		{"i(i(k(z,i(z))))", "0:5 1:5 2:4 4:5", "0:5", "4:5"},
		{"f(z,z,r)", "0:7 3:1", "0:7", "3:1"},
		{"f(s(r),r,z)", "0:8 2:1 3:1", "0:8", "2:1"},
		{"f(s(z),z,r)", "4:1", "4:1", "4:1"},
		{"f(p(r,s(z)),r,z)", "0:9 2:1 5:1", "0:9", "2:1"},
		{"f(p(r,r),z,z)", "2:1 3:1", "2:1", "2:1"},
		{"f(r,z,z)", "1:1", "1:1", "1:1"},
		{"s(k(z,add(p(z,z),i(z))))", "1:4 7:5", "1:4", "7:5"},
		{"p(i(p(z,z)),p(d(e(grow)),z))", "1:5 6:0 7:10 8:11", "1:5", "1:5"},
		{"e(p(e(z),e(grow)))", "0:10 2:10 4:10 5:11", "0:10", "2:10"},
	} {
		q.redexes(c.text, c.all, c.outermost, c.innermost)
		l := read(t, q.y, c.text)
		for place := range l {
			want := "none"
			for _, word := range strings.Fields(c.all) {
				if number, found := strings.CutPrefix(word, strconv.Itoa(place)+":"); found {
					want = number
				}
			}
			q.at(c.text, place, want)
			if want == "none" {
				q.stays(c.text, place, "182@"+strconv.Itoa(place))
			}
		}
	}
}

// P18.3, P18.5: what becomes of a redex, and that all else stays.
func TestContract(t *testing.T) {
	q := asked{t, full(t)}
	for _, c := range []struct {
		text  string
		place int
		want  string
		rule  int
	}{
		{"r", 0, "z", 1},
		{"loop", 0, "loop", 6},
		{"grow", 0, "s(z)", 11},
		{"s(r)", 1, "s(z)", 1},
		{"p(r,r)", 1, "p(z,r)", 1},
		{"p(r,r)", 2, "p(r,z)", 1},
		{"six(r,r,grow,r,r,r)", 3, "six(r,r,s(z),r,r,r)", 11},
		{"six(r,r,r,r,r,grow)", 6, "six(r,r,r,r,r,s(z))", 11},
		{"d(s(z))", 0, "p(s(z),s(z))", 0},
		{"d(d(r))", 0, "p(d(r),d(r))", 0},
		{"d(d(r))", 1, "d(p(r,r))", 0},
		{"d(d(r))", 2, "d(d(z))", 1},
		{"p(s(z),p(d(p(r,z)),s(r)))", 4, "p(s(z),p(p(p(r,z),p(r,z)),s(r)))", 0},
		{"add(z,s(z))", 0, "s(z)", 2},
		{"add(s(r),loop)", 0, "s(add(r,loop))", 3},
		{"add(s(add(z,z)),p(z,z))", 2, "add(s(z),p(z,z))", 2},
		{"p(add(s(s(z)),s(r)),r)", 1, "p(s(add(s(z),s(r))),r)", 3},
		{"k(r,loop)", 0, "r", 4},
		{"k(s(p(z,z)),d(d(d(z))))", 0, "s(p(z,z))", 4},
		{"p(k(p(z,r),p(r,z)),r)", 1, "p(p(z,r),r)", 4},
		{"k(loop,k(r,z))", 2, "k(loop,r)", 4},
		{"i(i(z))", 0, "i(z)", 5},
		{"i(i(z))", 1, "i(z)", 5},
		{"p(i(d(z)),s(z))", 1, "p(d(z),s(z))", 5},
		{"f(z,z,d(r))", 0, "d(r)", 7},
		{"f(s(p(z,z)),s(z),z)", 0, "f(p(z,z),s(z),s(z))", 8},
		{"s(f(p(d(z),s(r)),s(z),loop))", 1, "s(six(d(z),r,s(z),loop,d(z),s(d(s(z)))))", 9},
		{"e(r)", 0, "p(r,s(r))", 10},
		{"g(r,e(s(z)),r,z,z,r)", 2, "g(r,p(s(z),s(s(z))),r,z,z,r)", 10},
	} {
		q.becomes(c.text, c.place, c.want, c.rule)
		q.at(c.text, c.place, strconv.Itoa(c.rule))
	}
}

// P18.3: variables of whatever numbers, in whatever order, as often as one likes.
func TestVariables(t *testing.T) {
	q := asked{t, made(t, "con z/0, s/1; fun h/3; con six/6; fun b/0")}
	left, right := api.Term{2, -99, -7, -50}, api.Term{3, -7, -50, -99, -7, -7, 1, -50}
	if err := q.y.AddRules([]api.Rule{{Left: left, Right: right}}); err != nil {
		t.Fatal(told(t, err))
	}
	q.becomes("s(h(s(z),b,s(b)))", 1, "s(six(b,s(b),s(z),b,b,s(s(b))))", 0)
}

// row is five parts, and a row of the others as the sixth one, and so on, in symbols of six arguments; 0 where none is left.
func row(symbol int, parts []api.Term) api.Term {
	t := api.Term{symbol}
	for n := range 5 {
		if n < len(parts) {
			t = append(t, parts[n]...)
		} else {
			t = append(t, 0)
		}
	}
	if len(parts) > 5 {
		return append(t, row(symbol, parts[5:])...)
	}
	return append(t, 0)
}

// P18.3: MaxVariables variables, and sides of MaxSide numbers.
func TestGreatSides(t *testing.T) {
	y := made(t, "con z/0, s/1, p/2, six/6; fun h/1, b/0")
	var down, up, downTerms, upTerms []api.Term
	for n := 1; n <= 99; n++ {
		part := slices.Concat(api.Term{2}, chain(1+n/10, 1, 0), chain(1+n%10, 1, 0)) // another one for each variable
		down, downTerms = append([]api.Term{{-n}}, down...), append([]api.Term{part}, downTerms...)
		up, upTerms = append(up, api.Term{-n}), append(upTerms, part)
	}
	long := chain(200, 1, 0)
	if err := y.AddRules([]api.Rule{{Left: append(api.Term{4}, row(3, down)...), Right: row(3, up)}, {Left: api.Term{5}, Right: long}}); err != nil {
		t.Fatal(told(t, err))
	}
	x := append(api.Term{4}, row(3, downTerms)...)
	is(t, "Contract", x, contract(t, y, x, 0), numbers(row(3, upTerms))+" 0")
	is(t, "Contract", api.Term{5}, contract(t, y, api.Term{5}, 0), numbers(long)+" 1")
}

// P18.2, P18.3: each of MaxRules rules fits where it does, and no other one there.
func TestManyRules(t *testing.T) {
	y := made(t, "con z/0, s/1; fun h/1")
	var l []api.Rule
	for n := range 100 {
		l = append(l, api.Rule{Left: append(append(api.Term{2}, slices.Repeat(api.Term{1}, n)...), 0), Right: append(slices.Repeat(api.Term{1}, 99-n), 0)})
	}
	if err := y.AddRules(l); err != nil {
		t.Fatal(told(t, err))
	}
	for n := range 102 {
		x := append(append(api.Term{1, 2}, slices.Repeat(api.Term{1}, n)...), 0)
		if n >= 100 {
			is(t, "Redexes", x, redexes(t, y, x), "")
			is(t, "Contract", x, contract(t, y, x, 1), "[] 0 182@1")
			continue
		}
		is(t, "Redexes", x, redexes(t, y, x), "1:"+strconv.Itoa(n))
		is(t, "At", x, at(t, y, x, 1), strconv.Itoa(n)+" true")
		is(t, "Contract", x, contract(t, y, x, 1), numbers(append(slices.Repeat(api.Term{1}, 100-n), 0))+" "+strconv.Itoa(n))
	}
}

// chain is so many numbers: one symbol of one argument over and over, and another number last.
func chain(size, symbol, last int) api.Term {
	return append(slices.Repeat(api.Term{symbol}, size-1), last)
}

// numeral is a term of so many symbols, in normal form.
func numeral(size int) api.Term { return chain(size, s, z) }

// P18.3: a term of MaxTerm symbols may come of it; one more is too long: because of the part alone, or with what stands around it.
func TestLong(t *testing.T) {
	y := full(t)
	join := slices.Concat[api.Term]
	var none api.Term
	for _, c := range []struct {
		ahead, redex, part, behind api.Term
		size, rule                 int // of the term that comes of it, and what fits
	}{
		{api.Term{s}, join(api.Term{d}, numeral(999)), join(api.Term{p}, numeral(999), numeral(999)), none, 2000, 0},
		{api.Term{s, s}, join(api.Term{d}, numeral(999)), join(api.Term{p}, numeral(999), numeral(999)), none, 2001, 0},
		{none, join(api.Term{d}, numeral(999)), join(api.Term{p}, numeral(999), numeral(999)), none, 1999, 0},
		{none, join(api.Term{d}, numeral(1000)), join(api.Term{p}, numeral(1000), numeral(1000)), none, 2001, 0},
		{none, join(api.Term{d}, numeral(1999)), join(api.Term{p}, numeral(1999), numeral(1999)), none, 3999, 0},
		{chain(1998, d, d), api.Term{d, z}, api.Term{p, z, z}, none, 2001, 0},
		{chain(1997, d, d), api.Term{d, z}, api.Term{p, z, z}, none, 2000, 0},
		{none, join(api.Term{e}, numeral(999)), join(api.Term{p}, numeral(999), api.Term{s}, numeral(999)), none, 2000, 10},
		{api.Term{s}, join(api.Term{e}, numeral(999)), join(api.Term{p}, numeral(999), api.Term{s}, numeral(999)), none, 2001, 10},
		{api.Term{p}, join(api.Term{e}, numeral(998)), join(api.Term{p}, numeral(998), api.Term{s}, numeral(998)), numeral(1), 2000, 10},
		{api.Term{p}, join(api.Term{e}, numeral(998)), join(api.Term{p}, numeral(998), api.Term{s}, numeral(998)), numeral(2), 2001, 10},
		{chain(1998, s, s), api.Term{grow}, api.Term{s, z}, none, 2000, 11},
		{chain(1999, s, s), api.Term{grow}, api.Term{s, z}, none, 2001, 11},
		{api.Term{p}, api.Term{grow}, api.Term{s, z}, numeral(1997), 2000, 11},
		{api.Term{p}, api.Term{grow}, api.Term{s, z}, numeral(1998), 2001, 11},
		{chain(1999, s, s), api.Term{r}, api.Term{z}, none, 2000, 1},
		{chain(1999, s, s), api.Term{loop}, api.Term{loop}, none, 2000, 6},
		{none, join(api.Term{i}, numeral(1999)), numeral(1999), none, 1999, 5},
		{chain(1000, i, i), join(api.Term{i}, numeral(999)), numeral(999), none, 1999, 5},
		{none, join(api.Term{k}, numeral(1998), api.Term{r}), numeral(1998), none, 1998, 4},
		{none, join(api.Term{k, r}, numeral(1998)), api.Term{r}, none, 1, 4},
		{none, join(api.Term{add, s, z}, numeral(1997)), join(api.Term{s, add, z}, numeral(1997)), none, 2000, 3},
	} {
		l, place := join(c.ahead, c.redex, c.behind), len(c.ahead)
		u := join(c.ahead, c.part, c.behind)
		if len(l) > 2000 || len(u) != c.size {
			t.Fatalf("%d symbols become %d, not %d", len(l), len(u), c.size)
		}
		want := numbers(u) + " " + strconv.Itoa(c.rule)
		if c.size > 2000 {
			want = "[] 0 183@" + strconv.Itoa(place)
		}
		if got := contract(t, y, l, place); got != want {
			t.Errorf("Contract of %d symbols by the rule %d: %.80s, not %.80s", len(l), c.rule, got, want)
		}
		is(t, "At", l, at(t, y, l, place), strconv.Itoa(c.rule)+" true")
	}
}

// P18.2, P18.4: terms of MaxTerm symbols: all redexes are told, in time.
func TestGreatTerms(t *testing.T) {
	y := full(t)
	var all, odd []api.Redex
	for n := range 1999 {
		all = append(all, api.Redex{Place: n})
		if n%2 == 1 {
			odd = append(odd, api.Redex{Place: n, Rule: 1})
		}
	}
	x := chain(2000, d, z)
	is(t, "Redexes", x, redexes(t, y, x), shown(all...))
	is(t, "Outer", x, outer(t, y, x), "0:0 true")
	is(t, "Inner", x, inner(t, y, x), "1998:0 true")
	is(t, "Normal", x, normal(t, y, x), "false")
	comb := append(slices.Repeat(api.Term{p, r}, 999), z)
	is(t, "Redexes", comb, redexes(t, y, comb), shown(odd...))
	is(t, "Outer", comb, outer(t, y, comb), "1:1 true")
	is(t, "Inner", comb, inner(t, y, comb), "1:1 true")
	is(t, "Normal", comb, normal(t, y, comb), "false")
	rigid := append(slices.Repeat(api.Term{add}, 666), slices.Repeat(api.Term{s, z}, 667)...)
	is(t, "Redexes", rigid, redexes(t, y, rigid), "665:3")
	is(t, "Inner", rigid, inner(t, y, rigid), "665:3 true")
	is(t, "Outer", rigid, outer(t, y, rigid), "665:3 true")
	still := numeral(2000)
	is(t, "Normal", still, normal(t, y, still), "true")
	is(t, "Outer", still, outer(t, y, still), "0:0 false")
	is(t, "Inner", still, inner(t, y, still), "0:0 false")
}

// P18.3: a reduction, step by step, at whatever place.
func TestReduction(t *testing.T) {
	q := asked{t, full(t)}
	text := "add(s(s(z)),k(d(r),loop))"
	for _, c := range []struct {
		place int
		want  string
		rule  int
	}{
		{0, "s(add(s(z),k(d(r),loop)))", 3},
		{4, "s(add(s(z),d(r)))", 4},
		{1, "s(s(add(z,d(r))))", 3},
		{5, "s(s(add(z,d(z))))", 1},
		{2, "s(s(d(z)))", 2},
		{2, "s(s(p(z,z)))", 0},
	} {
		q.becomes(text, c.place, c.want, c.rule)
		u, _ := notation.PrintTerm(q.y.Sig(), read(t, q.y, c.want))
		text = u
	}
	q.redexes(text, "", "", "")
}
