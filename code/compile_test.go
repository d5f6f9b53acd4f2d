package code_test

import (
	"errors"
	"math"
	"math/rand"
	"slices"
	"strconv"
	"testing"

	"ropewalk/api"
	"ropewalk/code"
	"ropewalk/rules"
	"ropewalk/sig"
	"ropewalk/tree"
)

// sum are the chapter's rules 0 and 1.
const sum = "add(z,X) -> X; add(s(X),Y) -> s(add(X,Y))"

// few is a store with the chapter's symbols and rules, and no others.
func few(t *testing.T) *rules.Store {
	t.Helper()
	x := sig.New()
	for _, y := range symbols()[:4] {
		x.Add(y)
	}
	r := rules.New(x)
	if err := r.Add(rulesOf(filled(t, sum))); err != nil {
		t.Fatal(err)
	}
	return r
}

// rulesOf are the rules of a store.
func rulesOf(r *rules.Store) []api.Rule {
	var l []api.Rule
	for _, x := range r.All() {
		l = append(l, x)
	}
	return l
}

// P9.3: the chapter's example.
func TestCompileExample(t *testing.T) {
	c, err := code.Compile(few(t))
	want := "look 0; case 0 4; case 1 5; stuck; rule 0; rule 1; stuck | 0 | -1 -1 0 6 | @1; 1 2 @0.0 @1"
	if shownCode(c) != want || err != nil {
		t.Errorf("%s, %v", shownCode(c), err)
	}
}

// P9.3: where each symbol's code begins, indexes and paths behind those of the symbols ahead, right sides of all kinds.
func TestCompile(t *testing.T) {
	for _, x := range []struct {
		rules, want string
	}{
		// Defined symbols without rules.
		{"", "stuck; stuck; stuck; stuck; stuck |  | -1 -1 0 1 -1 -1 2 -1 3 4 | "},
		{sum, "look 0; case 0 4; case 1 5; stuck; rule 0; rule 1; stuck; stuck; stuck; stuck | 0 | -1 -1 0 6 -1 -1 7 -1 8 9 | @1; 1 2 @0.0 @1"},
		// Rules without constructors in their left sides; right sides that are a variable alone, or a symbol.
		{"k(X) -> X; h -> z; f(X,Y,Z) -> Y", "stuck; rule 1; rule 2; stuck; rule 0 |  | -1 -1 0 1 -1 -1 2 -1 3 4 | @0; 0; @1"},
		{"h -> h; add(Y,X) -> add(X,Y)", "rule 1; rule 0; stuck; stuck; stuck |  | -1 -1 0 1 -1 -1 2 -1 3 4 | 3; 2 @1 @0"},
		// Two symbols with branches: the later one's indexes and paths are so much farther, whatever the order of the rules.
		{"k(s(X)) -> k(X); add(X,z) -> X; k(z) -> a; add(X,s(Y)) -> s(add(X,Y))",
			"look 0; case 0 4; case 1 5; stuck; rule 1; rule 3; stuck; stuck; stuck; look 1; case 0 13; case 1 14; stuck; rule 2; rule 0 | 1 0 | -1 -1 0 6 -1 -1 7 -1 8 9 | 9 @0.0; @0; 4; 1 2 @0 @1.0"},
		{"f(X,z,Y) -> p(X,Y); f(X,s(Y),a) -> f(Y,X,X); h -> a",
			"stuck; rule 2; look 0; case 0 6; case 1 7; stuck; rule 0; look 1; case 4 10; stuck; rule 1; stuck; stuck | 1 2 | -1 -1 0 1 -1 -1 2 -1 11 12 | 5 @0 @2; 6 @1.0 @0 @0; 4"},
		// A symbol of six arguments, and paths into a constructor of six.
		{"g(A,B,C,D,E,z) -> g(E,D,C,B,A,A); k(six(A,B,C,D,E,p(F,G))) -> six(G,F,E,D,C,B)",
			"stuck; stuck; stuck; look 0; case 0 6; stuck; rule 0; look 1; case 7 10; stuck; look 2; case 5 13; stuck; rule 1 | 5 0 0.5 | -1 -1 0 1 -1 -1 2 -1 3 7 | 8 @4 @3 @2 @1 @0 @0; 7 @0.5.1 @0.5.0 @0.4 @0.3 @0.2 @0.1"},
		// A variable that stands nowhere in the right side, and one that stands there again and again.
		{"add(X,Y) -> p(p(Y,Y),p(Y,Y))", "rule 0; stuck; stuck; stuck; stuck |  | -1 -1 0 1 -1 -1 2 -1 3 4 | 5 5 @1 @1 5 @1 @1"},
	} {
		if c := compiled(t, x.rules); shownCode(c) != x.want {
			t.Errorf("%q: %s; want %s", x.rules, shownCode(c), x.want)
		}
	}
}

// P9.3: symbols whose rules have no case tree: the first one by its number, whatever the order of the rules.
func TestCompileFork(t *testing.T) {
	for _, x := range []struct {
		rules string
		want  verdict
	}{
		{three("f(", ")"), forked(f, 0)},
		{sum + "; " + three("f(", ")"), forked(f, 2)},
		{three("g(Y,Z,V,", ")"), forked(g, 0)},
		{three("g(Y,Z,V,", ")") + "; " + three("f(", ")"), forked(f, 3)},
		{three("f(", ")") + "; " + three("g(Y,Z,V,", ")"), forked(f, 0)},
		{three("k(six(Y,Z,V,", "))") + "; h -> z; " + three("g(Y,Z,V,", ")"), forked(g, 4)},
		{three("k(six(Y,Z,V,", "))") + "; k(z) -> z", forked(k, 0)},
	} {
		c, err := code.Compile(filled(t, x.rules))
		if told(t, err) != x.want || !isEmpty(c) || !bears(err, api.ErrTreeNone, api.ErrTreeFork) {
			t.Errorf("%q: %v beside %s", x.rules, err, shownCode(c))
		}
		_, other := tree.Build(filled(t, x.rules), x.want.at)
		if told(t, err) != told(t, other) {
			t.Errorf("%q: %v; tree tells %v", x.rules, err, other)
		}
		var fault *api.Fault
		if !errors.As(err, &fault) || fault.Code != api.ErrTreeNone || !errors.As(fault.Why, &fault) || fault.Code != api.ErrTreeFork {
			t.Errorf("%q: %v", x.rules, err)
		}
	}
}

// R1: no store; P9.3: stores without symbols, without defined ones, without constructors.
func TestCompileNoSymbols(t *testing.T) {
	c, err := code.Compile(nil)
	if told(t, err) != (verdict{code: api.ErrArg}) || !bears(err, api.ErrArg) || !isEmpty(c) {
		t.Errorf("nil: %v beside %s", err, shownCode(c))
	}
	for _, r := range []*rules.Store{{}, rules.New(sig.New()), rules.New(&sig.Sig{})} {
		if c, err := code.Compile(r); err != nil || !isEmpty(c) {
			t.Errorf("%s, %v", shownCode(c), err)
		}
	}
	for _, defined := range []bool{false, true} {
		x := sig.New()
		for n := range 64 {
			x.Add(api.Symbol{Name: "c" + strconv.Itoa(n), Arity: n % 7, Defined: defined})
		}
		c, err := code.Compile(rules.New(x))
		if err != nil || len(c.Entry) != 64 || len(c.Paths) != 0 || len(c.Rights) != 0 {
			t.Fatalf("%s, %v", shownCode(c), err)
		}
		for n, begin := range c.Entry {
			if defined && (begin != n || c.Ins[n] != stuck()) || !defined && begin != -1 {
				t.Errorf("%d: %d", n, begin)
			}
		}
		if many := len(c.Ins); defined && many != 64 || !defined && many != 0 {
			t.Errorf("%d instructions", many)
		}
	}
}

// P9.3: 100 rules, one beneath the other: k(z), k(s(z)), k(s(s(z))) and so on.
func TestCompileManyRules(t *testing.T) {
	var l []api.Rule
	for n := range 100 {
		l = append(l, api.Rule{Left: chain(k, n, z), Right: chain(s, n, a)})
	}
	c, err := code.Compile(storeOf(t, l))
	if err != nil || len(c.Rights) != 100 || len(c.Paths) != 100 {
		t.Fatalf("%d, %d, %v", len(c.Rights), len(c.Paths), err)
	}
	begin := c.Entry[k]
	for n := range 100 {
		if !slices.Equal(c.Paths[n], make([]int, n+1)) || len(c.Rights[n]) != n+2 {
			t.Fatalf("%d: %v", n, c.Paths[n])
		}
		want := []api.Ins{look(n), inCase(z, begin+4), inCase(s, begin+5), stuck(), byRule(n)}
		if n == 99 {
			want = []api.Ins{look(n), inCase(z, begin+3), stuck(), byRule(n)}
		}
		if got := c.Ins[begin : begin+len(want)]; !slices.Equal(got, want) {
			t.Fatalf("%d: %s", n, shown(got))
		}
		begin += len(want)
	}
	if begin != len(c.Ins) {
		t.Errorf("%d instructions; want %d", len(c.Ins), begin)
	}
	for n := range 100 {
		x := chain(k, n, z)
		if found, e := code.Run(c, k, code.Over(signature(t), x), 0); !sameFound(found, fits(n)) || e != api.OK {
			t.Fatalf("%d: %v, %v", n, found, e)
		}
	}
}

// P9.3: sides of 200 numbers.
func TestCompileLongSides(t *testing.T) {
	deep := api.Rule{Left: chain(k, 198, -1), Right: chain(s, 198, -1)}
	wide := api.Rule{Left: api.Term{add}}
	for v := 1; v < 99; v++ {
		wide.Left = append(wide.Left, p, -v)
	}
	wide.Left = append(wide.Left, s, -99, z)
	for v := 99; v > 0; v-- {
		wide.Right = append(wide.Right, p, -v)
	}
	wide.Right = append(wide.Right, s, a)
	for _, x := range []api.Rule{deep, wide} {
		if len(x.Left) != 200 || len(x.Right) != 200 {
			t.Fatalf("%d, %d", len(x.Left), len(x.Right))
		}
	}
	c, err := code.Compile(storeOf(t, []api.Rule{wide, deep}))
	if err != nil {
		t.Fatal(err)
	}
	for n, x := range []api.Rule{wide, deep} {
		if !sameParts(c.Rights[n], partsOf(x)) {
			t.Errorf("%d: %s", n, shownRights(c.Rights[n:n+1]))
		}
	}
	for n := range 198 {
		at := c.Entry[k] + 3*n
		if c.Ins[at].Op != api.OpLook || !slices.Equal(c.Paths[c.Ins[at].A], make([]int, n+1)) || c.Ins[at+1] != inCase(s, at+3) || c.Ins[at+2] != stuck() {
			t.Fatalf("%d: %s", n, shown(c.Ins[at:at+3]))
		}
	}
	if n, e := code.Weight(c, 1); n != 199 || e != api.OK {
		t.Errorf("Weight: %d, %v", n, e)
	}
	if n, e := code.Weight(c, 0); n != 101 || e != api.OK {
		t.Errorf("Weight: %d, %v", n, e)
	}
}

// P9.3: as many symbols as may be, a rule for each constructor, and a code for the first and for the last one.
func TestCompileManySymbols(t *testing.T) {
	for _, defined := range []int{0, 30, 63} {
		x := sig.New()
		for n := range 64 {
			x.Add(api.Symbol{Name: "c" + strconv.Itoa(n), Arity: 1, Defined: n == defined})
		}
		r := rules.New(x)
		for n := 63; n >= 0; n-- {
			if n != defined {
				r.Add([]api.Rule{{Left: api.Term{defined, n, -1}, Right: api.Term{n, -1}}})
			}
		}
		c, err := code.Compile(r)
		if err != nil || len(c.Ins) != 65+63 || len(c.Entry) != 64 || len(c.Rights) != 63 {
			t.Fatalf("%s, %v", shownCode(c), err)
		}
		for n, begin := range c.Entry {
			if (begin == 0) != (n == defined) || begin > 0 || begin < -1 {
				t.Errorf("%d: %d", n, begin)
			}
		}
		for i := range 63 {
			y := c.Ins[1+i]
			rule := c.Rights[c.Ins[y.B].A]
			if y.Op != api.OpCase || y.B != 65+i || c.Ins[y.B].Op != api.OpRule || rule[0].Symbol != y.A || !slices.Equal(rule[1].Path, []int{0, 0}) {
				t.Fatalf("%d: %v", i, y)
			}
		}
	}
}

// P9.3: rules and symbols that come later are seen, and what was compiled stays.
func TestCompileLater(t *testing.T) {
	x := signature(t)
	r := rules.New(x)
	first, _ := code.Compile(r)
	was := shownCode(first)
	x.Add(api.Symbol{Name: "b"})
	x.Add(api.Symbol{Name: "j", Arity: 1, Defined: true})
	r.Add([]api.Rule{{Left: api.Term{11, 10}, Right: api.Term{10}}, {Left: api.Term{h}, Right: api.Term{10}}})
	c, err := code.Compile(r)
	want := "stuck; rule 1; stuck; stuck; stuck; look 0; case 10 8; stuck; rule 0 | 0 | -1 -1 0 1 -1 -1 2 -1 3 4 -1 5 | 10; 10"
	if err != nil || shownCode(c) != want {
		t.Errorf("%s, %v", shownCode(c), err)
	}
	if shownCode(first) != was {
		t.Errorf("the first one is %s", shownCode(first))
	}
}

// R1: a signature that somebody exchanged beneath a store: there is an answer all the same, with an entry for each symbol and parts for each rule.
func TestCompileSignatureExchanged(t *testing.T) {
	for _, l := range [][]api.Symbol{
		nil,
		{{Name: "z"}, {Name: "s", Arity: 1}, {Name: "add", Arity: 1, Defined: true}},
		{{Name: "z", Arity: 1}, {Name: "s"}, {Name: "add", Arity: 2, Defined: true}},
		{{Name: "z"}, {Name: "s", Arity: 1, Defined: true}, {Name: "add", Arity: 2}},
		{{Name: "add", Arity: 2, Defined: true}},
	} {
		x := signature(t)
		r := rules.New(x)
		if err := r.Add(rulesOf(filled(t, sum+"; add(a,p(X,Y)) -> X"))); err != nil {
			t.Fatal(err)
		}
		*x = sig.Sig{}
		for _, y := range l {
			x.Add(y)
		}
		if c, err := code.Compile(r); err != nil || len(c.Entry) != len(l) || len(c.Rights) != 3 {
			t.Errorf("%v: %s, %v", l, shownCode(c), err)
		}
	}
}

// partsOf are the parts of a right side, told by plants.
func partsOf(x api.Rule) []api.Part {
	var l []api.Part
	left := plantOf(x.Left)
	for _, n := range x.Right {
		if n >= 0 {
			l = append(l, api.Part{Symbol: n})
		} else {
			l = append(l, api.Part{Symbol: -1, Path: left.pathTo(n)})
		}
	}
	return l
}

func sameParts(x, y []api.Part) bool {
	return slices.EqualFunc(x, y, func(a, b api.Part) bool { return a.Symbol == b.Symbol && slices.Equal(a.Path, b.Path) })
}

// P9.3: what the chapter's words say, of many stores, those that have all case trees and those that lack one.
func TestCompileByWords(t *testing.T) {
	random := rand.New(rand.NewSource(93))
	codes, refused := 0, 0
	for range 600 {
		r := storeOf(t, chosen(random, []int{add, h, k}, 8))
		scatter(random, r, f, random.Intn(12))
		scatter(random, r, g, random.Intn(12))
		var want api.Code
		var lacking error
		for n, x := range symbols() {
			if !x.Defined {
				want.Entry = append(want.Entry, -1)
				continue
			}
			c, err := tree.Build(r, n)
			if err != nil && lacking == nil {
				lacking = err
			}
			want.Entry = append(want.Entry, len(want.Ins))
			want.Ins = append(want.Ins, codeOf(c, len(want.Ins), len(want.Paths))...)
			want.Paths = append(want.Paths, branches(c)...)
		}
		for _, x := range r.All() {
			want.Rights = append(want.Rights, partsOf(x))
		}
		got, err := code.Compile(r)
		if lacking != nil {
			refused++
			if told(t, err) != told(t, lacking) || !isEmpty(got) {
				t.Fatalf("%v: %v; want %v", rulesOf(r), err, lacking)
			}
			continue
		}
		codes++
		if err != nil || shownCode(got) != shownCode(want) {
			t.Fatalf("%v: %s, %v; want %s", rulesOf(r), shownCode(got), err, shownCode(want))
		}
	}
	if codes < 100 || refused < 20 {
		t.Errorf("%d codes, %d refused", codes, refused)
	}
}

// P9.5: the chapter's example, and Codes that were made by hand.
func TestWeight(t *testing.T) {
	c, _ := code.Compile(few(t))
	byHand := api.Code{Rights: [][]api.Part{
		nil,
		{},
		{{Symbol: 0, Path: []int{1}}, {Symbol: -2}, {Symbol: -1}, {Symbol: 99}, {Symbol: math.MaxInt}, {Symbol: math.MinInt}},
		{{Symbol: 0}, {Symbol: 0}, {Symbol: 0}},
	}}
	for _, x := range []struct {
		c    api.Code
		rule int
		want int
		e    api.Errno
	}{
		{c, 0, 0, api.OK}, {c, 1, 2, api.OK}, {c, 2, 0, api.ErrCodeRule}, {c, -1, 0, api.ErrCodeRule},
		{c, math.MaxInt, 0, api.ErrCodeRule}, {c, math.MinInt, 0, api.ErrCodeRule},
		{api.Code{}, 0, 0, api.ErrCodeRule}, {api.Code{Ins: c.Ins, Entry: c.Entry, Paths: c.Paths}, 0, 0, api.ErrCodeRule},
		{byHand, 0, 0, api.OK}, {byHand, 1, 0, api.OK}, {byHand, 2, 3, api.OK}, {byHand, 3, 3, api.OK}, {byHand, 4, 0, api.ErrCodeRule},
		// Spare room is no part of a list.
		{api.Code{Rights: byHand.Rights[:2]}, 2, 0, api.ErrCodeRule},
		{api.Code{Rights: [][]api.Part{byHand.Rights[3][:1]}}, 0, 1, api.OK},
	} {
		if n, e := code.Weight(x.c, x.rule); n != x.want || e != x.e {
			t.Errorf("%d of %v: %d, %v", x.rule, x.c.Rights, n, e)
		}
	}
}
