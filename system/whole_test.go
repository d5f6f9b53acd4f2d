package system_test

import (
	"errors"
	"math"
	"math/rand"
	"reflect"
	"slices"
	"strings"
	"testing"

	"ropewalk/api"
	"ropewalk/notation"
	"ropewalk/system"
	"ropewalk/tree"
)

// P10.2 to P10.5, W5, R3: whatever is done, in whatever order, to systems and to their copies: each tells what the chapter says, each defined symbol has a case tree, and what is refused changes nothing.
func TestWhateverIsDone(t *testing.T) {
	random := rand.New(rand.NewSource(10))
	met := map[string]int{}
	for range 40 {
		systems, models := []*system.System{system.New()}, []model{{}}
		taken(t, systems[0].AddSymbols(symbols(t, declared)))
		models[0].addSymbols(t, symbols(t, declared))
		for range 40 {
			n := random.Intn(len(systems))
			y, m := systems[n], &models[n]
			var err error
			want, before := "", whole(t, y)
			switch random.Intn(8) {
			case 0:
				systems, models = append(systems, y.Copy()), append(models, m.copied())
			case 1, 2:
				l := someSymbols(random)
				err, want = y.AddSymbols(l), m.addSymbols(t, l)
			default:
				l := someRules(random, m.symbols)
				err, want = y.AddRules(l), m.addRules(t, l)
			}
			if told(t, err) != want {
				t.Fatalf("%s, not %s; of %s", told(t, err), want, before)
			}
			if err != nil && whole(t, y) != before {
				t.Fatalf("%s changes %s", want, before)
			}
			bears(t, err)
			met[strings.Join(kinds(want), " ")]++
			for i := range systems {
				if whole(t, systems[i]) != models[i].whole(t) {
					t.Fatalf("%s, not %s", whole(t, systems[i]), models[i].whole(t))
				}
				hasTrees(t, systems[i])
			}
		}
	}
	for _, kind := range []string{"", "100 10", "100 11", "100 12", "101 71 21", "101 71 23", "101 73", "101 76", "101 77 78", "102 81 82"} {
		if met[kind] < 5 {
			t.Errorf("%q was met %d times: %v", kind, met[kind], met)
		}
	}
}

// kinds are the numbers of what is told of an error, without its places.
func kinds(told string) []string {
	l := strings.Fields(told)
	for i, word := range l {
		l[i], _, _ = strings.Cut(word, "@")
	}
	return l
}

// hasTrees asks whether each defined symbol has a case tree, by Tree and by the rules, and code that begins somewhere.
func hasTrees(t *testing.T, y *system.System) {
	t.Helper()
	entry := y.Code().Entry
	for symbol, x := range y.Sig().All() {
		c, err := y.Tree(symbol)
		if x.Defined != (err == nil) || x.Defined != (entry[symbol] >= 0) {
			t.Fatalf("Tree(%d): %v; code at %d", symbol, err, entry[symbol])
		}
		l := tree.Rules(c)
		slices.Sort(l)
		if !slices.Equal(l, y.Rules().Of(symbol)) {
			t.Fatalf("Tree(%d) has the rules %v, not %v", symbol, l, y.Rules().Of(symbol))
		}
	}
}

// W5: rules that are taken in one call are taken one by one, and the other way round, as far as the last state is one of case trees.
func TestTogetherAndOneByOne(t *testing.T) {
	random := rand.New(rand.NewSource(11))
	all, none := 0, 0
	for range 400 {
		together, single := filled(t), filled(t)
		var l []api.Rule
		for range 3 {
			l = append(l, someRules(random, symbols(t, declared))...)
		}
		err := together.AddRules(l)
		ok := true
		for _, x := range l {
			ok = ok && single.AddRules([]api.Rule{x}) == nil
		}
		if ok != (err == nil) {
			t.Fatalf("%s: %v, one by one %t", shownRules(l), err, ok)
		}
		if !ok {
			none++
			continue
		}
		all++
		if seen(t, together) != seen(t, single) || single.Version() != len(l) {
			t.Fatalf("%s: they are not alike", shownRules(l))
		}
	}
	if all < 40 || none < 40 {
		t.Errorf("%d taken, %d refused", all, none)
	}
}

// W6: what a system has is written and read as the same: another system takes it all, and tells the same.
func TestThereAndBack(t *testing.T) {
	random := rand.New(rand.NewSource(12))
	for range 60 {
		y := filled(t)
		for range 6 {
			y.AddSymbols(someSymbols(random))
			y.AddRules(someRules(random, symbolsOf(y.Sig())))
		}
		other := system.New()
		text, e := notation.PrintSymbols(symbolsOf(y.Sig()))
		if e != api.OK {
			t.Fatal(e)
		}
		taken(t, other.AddSymbols(symbols(t, text)))
		text, e = notation.PrintRules(other.Sig(), rulesOf(y))
		if e != api.OK {
			t.Fatal(e)
		}
		l, err := notation.Rules(other.Sig(), text)
		if len(text) > 0 {
			taken(t, err)
		}
		taken(t, other.AddRules(l))
		if shownSymbols(symbolsOf(other.Sig())) != shownSymbols(symbolsOf(y.Sig())) || shownCode(other.Code()) != shownCode(y.Code()) {
			t.Fatalf("%s\n%s", seen(t, y), seen(t, other))
		}
	}
}

// P10.5: nobody gets past AddSymbols and AddRules: a system has the listed calls alone, and no field that others see.
func TestNothingElse(t *testing.T) {
	var names []string
	kind := reflect.TypeOf(system.New())
	for i := range kind.NumMethod() {
		names = append(names, kind.Method(i).Name)
	}
	if got := strings.Join(names, " "); got != "AddRules AddSymbols Code Copy Rules Sig Tree Version" {
		t.Errorf("its calls: %s", got)
	}
	for _, x := range reflect.VisibleFields(kind.Elem()) {
		if x.IsExported() {
			t.Errorf("its field %s", x.Name)
		}
	}
}

// R1: a nil system: ErrArg ahead of all else, or zero values.
func TestNilSystem(t *testing.T) {
	var y *system.System
	_, tree := y.Tree(add)
	_, none := y.Tree(-1)
	for _, err := range []error{
		y.AddSymbols(nil), y.AddSymbols(many(0, 65)), y.AddSymbols(many(0, 1)), y.AddSymbols([]api.Symbol{{}}),
		y.AddRules(nil), y.AddRules(apart(0, 101)), y.AddRules(read(t, sum)), y.AddRules([]api.Rule{{}}), tree, none,
	} {
		refused(t, err, "1@0")
		bears(t, err)
	}
	if y.AddRules(nil) == y.AddRules(nil) {
		t.Error("a Fault is another one each time")
	}
	if c, _ := y.Tree(add); shownCase(c) != shownCase(api.Case{}) {
		t.Errorf("Tree: %v", c)
	}
	if y.Sig() != nil || y.Rules() != nil || y.Copy() != nil || y.Version() != 0 || shownCode(y.Code()) != shownCode(api.Code{}) {
		t.Error("zero values are asked for")
	}
}

// R1: a system that somebody made by hand is as good as New's, and one that was copied by hand is on its own.
func TestHandMadeSystem(t *testing.T) {
	y := &system.System{}
	if whole(t, y) != whole(t, system.New()) || whole(t, y.Copy()) != whole(t, y) {
		t.Errorf("%s", whole(t, y))
	}
	refused(t, y.AddRules([]api.Rule{{}}), "101@0 71@0 23")
	refused(t, y.AddSymbols([]api.Symbol{{}}), "100@0 10")
	taken(t, y.AddRules(nil))
	taken(t, y.AddSymbols(nil))
	taken(t, y.AddSymbols(symbols(t, declared)))
	taken(t, y.AddRules(read(t, sum)))
	if whole(t, y) != whole(t, filled(t, sum)) {
		t.Errorf("%s", whole(t, y))
	}
	other, before := *y, whole(t, y)
	taken(t, other.AddSymbols(symbols(t, "con late/0")))
	taken(t, other.AddRules(read(t, "h -> z")))
	if whole(t, y) != before || other.Version() != 2 {
		t.Error("they hang together")
	}
}

// R1: whatever is handed in, each call ends, and refuses what is none.
func TestOddInputs(t *testing.T) {
	y := filled(t, sum)
	before := whole(t, y)
	extremes := []int{math.MinInt, math.MinInt + 1, -100, -99, -1, 0, 1, k, k + 1, 64, math.MaxInt}
	for _, n := range extremes {
		for _, m := range extremes {
			for _, l := range [][]api.Rule{{rule(api.Term{n}, api.Term{m})}, {rule(api.Term{n, m}, nil)}, {rule(nil, api.Term{n, m})}, {rule(api.Term{k, n, m, m}, api.Term{z})}} {
				if y.AddRules(l) == nil {
					t.Errorf("%v is taken", l)
				}
			}
		}
		if n < 0 || n > 6 {
			refused(t, y.AddSymbols([]api.Symbol{{Name: "q", Arity: n}}), "100@0 11")
		}
	}
	for _, name := range []string{"", " ", "q ", "Q", "é", "\xff\xfe", "q\x00", strings.Repeat("q", 13), strings.Repeat("q", 100000)} {
		refused(t, y.AddSymbols([]api.Symbol{{Name: name}}), "100@0 10")
	}
	refused(t, y.AddRules([]api.Rule{rule(make(api.Term, 100000), make(api.Term, 100000))}), "101@0 71@0 20")
	refused(t, y.AddRules(make([]api.Rule, 100000)), "101@0 70@0")
	refused(t, y.AddSymbols(make([]api.Symbol, 100000)), "100@0 10")
	if whole(t, y) != before {
		t.Error("it is changed")
	}
}

// R4: what is handed in is not changed, its spare room neither, and not kept.
func TestWhatIsHandedInStays(t *testing.T) {
	y := system.New()
	room := slices.Concat(symbols(t, declared), many(0, 5))
	was := slices.Clone(room)
	taken(t, y.AddSymbols(room[:k+1]))
	refused(t, y.AddSymbols(room[:k+1]), "100@0 12")
	if !slices.Equal(room, was) {
		t.Errorf("%v", room)
	}
	sides := []int{add, z, -1, 77, 78, 79}
	left, right := api.Term(sides[:3]), api.Term(sides[2:3])
	list := append(make([]api.Rule, 0, 4), rule(left, right), rule(api.Term{add, s, -1, -2}, api.Term{s, add, -1, -2}))
	list[:3][2] = rule(api.Term{55}, api.Term{56})
	taken(t, y.AddRules(list))
	refused(t, y.AddRules(list), "101@0 77@0 78@0")
	refused(t, y.AddRules(list[:3]), "101@2 71@2 21")
	if !slices.Equal(sides, []int{add, z, -1, 77, 78, 79}) || shownRules(list[:4]) != shownRules(slices.Concat(read(t, sum), []api.Rule{rule(api.Term{55}, api.Term{56}), {}})) {
		t.Errorf("%v, %v", sides, list[:4])
	}
	before := whole(t, y)
	for i := range room {
		room[i] = api.Symbol{Name: "spoilt", Arity: 6}
	}
	spoil(sides)
	for _, x := range list {
		spoil(x.Left)
		spoil(x.Right)
	}
	clear(list)
	if whole(t, y) != before || before != whole(t, filled(t, sum)) {
		t.Error("what was handed in is kept")
	}
}

// R5: the same answers each time, whatever was asked before; a Fault, and all that it comes of, is another one each time.
func TestSameEachTime(t *testing.T) {
	y, other := filled(t, sum), filled(t, sum)
	for range 3 {
		y.Code()
		y.Tree(add)
		y.AddRules(read(t, three("f")))
		y.AddSymbols(symbols(t, "con q/0, z/0"))
		if whole(t, y) != whole(t, other) {
			t.Fatal("what was asked is seen")
		}
	}
	for _, ask := range []func() error{
		func() error { return y.AddSymbols(symbols(t, "con z/0")) },
		func() error { return y.AddRules(read(t, "add(X,z) -> z")) },
		func() error { return y.AddRules(read(t, three("f"))) },
		func() error { _, err := y.Tree(z); return err },
	} {
		one, two := ask(), ask()
		if told(t, one) != told(t, two) {
			t.Errorf("%v, then %v", one, two)
		}
		for one != nil {
			if _, ok := one.(*api.Fault); ok && one == two {
				t.Errorf("%v is the same one", one)
			}
			one, two = errors.Unwrap(one), errors.Unwrap(two)
		}
	}
}

// Errors: the numbers are the document's.
func TestErrorNumbers(t *testing.T) {
	for i, e := range []api.Errno{api.ErrSystemSymbols, api.ErrSystemRules, api.ErrSystemTree} {
		if int(e) != 100+i {
			t.Errorf("%v is not %d", e, 100+i)
		}
	}
	if api.ErrArg != 1 || api.MaxSymbols != 64 || api.MaxRules != 100 {
		t.Error("ErrArg, or the limits")
	}
}
