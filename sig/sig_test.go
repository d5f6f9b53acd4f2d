package sig_test

import (
	"errors"
	"math"
	"slices"
	"strconv"
	"strings"
	"testing"

	"ropewalk/api"
	"ropewalk/sig"
)

// numbers: two constructors, and a defined symbol.
func numbers() []api.Symbol {
	return []api.Symbol{{Name: "s", Arity: 1}, {Name: "z"}, {Name: "add", Arity: 2, Defined: true}}
}

// many: n symbols, every third one defined, of all arities.
func many(n int) []api.Symbol {
	var l []api.Symbol
	for i := range n {
		l = append(l, api.Symbol{Name: "f" + strconv.Itoa(i), Arity: i % 7, Defined: i%3 == 0})
	}
	return l
}

// filled: a signature to which these were added.
func filled(t *testing.T, l []api.Symbol) *sig.Sig {
	t.Helper()
	s := sig.New()
	for i, x := range l {
		if n, e := s.Add(x); n != i || e != api.OK {
			t.Fatalf("Add %v: %d, %v", x, n, e)
		}
	}
	return s
}

// told: what a range over All gives; its numbers must be 0, 1 and so on.
func told(t *testing.T, s *sig.Sig) []api.Symbol {
	t.Helper()
	var l []api.Symbol
	for n, x := range s.All() {
		if n != len(l) {
			t.Fatalf("All: %d comes where %d should", n, len(l))
		}
		l = append(l, x)
	}
	return l
}

// mustHold: by all its calls, the signature has just these symbols.
func mustHold(t *testing.T, s *sig.Sig, l []api.Symbol) {
	t.Helper()
	if s.Len() != len(l) {
		t.Errorf("Len: %d, not %d", s.Len(), len(l))
	}
	if got := told(t, s); !slices.Equal(got, l) {
		t.Errorf("All: %v, not %v", got, l)
	}
	of := map[bool][]int{}
	for i, x := range l {
		of[x.Defined] = append(of[x.Defined], i)
		if got, e := s.At(i); got != x || e != api.OK {
			t.Errorf("At %d: %v, %v", i, got, e)
		}
		if n, e := s.Find(x.Name); n != i || e != api.OK {
			t.Errorf("Find %q: %d, %v", x.Name, n, e)
		}
	}
	for _, n := range []int{-1, len(l), len(l) + 1, math.MaxInt, math.MinInt} {
		if x, e := s.At(n); x != (api.Symbol{}) || e != api.ErrSigNone {
			t.Errorf("At %d: %v, %v", n, x, e)
		}
	}
	for _, defined := range []bool{true, false} {
		if got := s.Of(defined); !slices.Equal(got, of[defined]) {
			t.Errorf("Of(%v): %v, not %v", defined, got, of[defined])
		}
	}
}

// P1.2, P1.3: a new one has nothing.
func TestNew(t *testing.T) {
	s := sig.New()
	if s == nil {
		t.Fatal("New is nil")
	}
	mustHold(t, s, nil)
	s.Add(api.Symbol{Name: "a"})
	mustHold(t, sig.New(), nil)
}

// P1.2, P1.3: ordinary symbols, in the order in which they came.
func TestAdd(t *testing.T) {
	mustHold(t, filled(t, numbers()), numbers())
	turned := numbers()
	slices.Reverse(turned)
	mustHold(t, filled(t, turned), turned)
}

// P1.2: arities 0 to 6, and no others.
func TestAddArities(t *testing.T) {
	s := sig.New()
	var l []api.Symbol
	for _, n := range []int{0, 1, 2, 3, 4, 5, 6} {
		x := api.Symbol{Name: "f" + strconv.Itoa(n), Arity: n, Defined: n%2 == 0}
		if got, e := s.Add(x); got != n || e != api.OK {
			t.Errorf("Add %v: %d, %v", x, got, e)
		}
		l = append(l, x)
	}
	for _, n := range []int{7, -1, 8, -7, math.MaxInt, math.MinInt} {
		if got, e := s.Add(api.Symbol{Name: "g", Arity: n}); got != 0 || e != api.ErrSigArity {
			t.Errorf("arity %d: %d, %v", n, got, e)
		}
	}
	mustHold(t, s, l)
}

// P1.2: names of 12 bytes, and of 13; and what is no name, a variable's among them.
func TestAddNames(t *testing.T) {
	s := sig.New()
	twelve := api.Symbol{Name: "abcdefghijkl"}
	if n, e := s.Add(twelve); n != 0 || e != api.OK {
		t.Errorf("12 bytes: %d, %v", n, e)
	}
	for _, name := range []string{"abcdefghijklm", "", "Z", "X1", "a_b", "1a", "aB", "a b", "é", strings.Repeat("a", 1000)} {
		if n, e := s.Add(api.Symbol{Name: name}); n != 0 || e != api.ErrSigName {
			t.Errorf("Add %q: %d, %v", name, n, e)
		}
	}
	mustHold(t, s, []api.Symbol{twelve})
}

// P1.2: a name stands for one symbol, whatever else is another.
func TestAddTwice(t *testing.T) {
	s := filled(t, numbers())
	for _, x := range []api.Symbol{{Name: "z"}, {Name: "z", Arity: 3}, {Name: "z", Defined: true}, {Name: "s", Arity: 1}, {Name: "add", Arity: 2, Defined: true}, {Name: "add"}} {
		if n, e := s.Add(x); n != 0 || e != api.ErrSigTwice {
			t.Errorf("Add %v: %d, %v", x, n, e)
		}
	}
	mustHold(t, s, numbers())
}

// P1.2: the 64th symbol, and the 65th.
func TestAddMany(t *testing.T) {
	s := filled(t, many(63))
	last := many(64)[63]
	if n, e := s.Add(last); n != 63 || e != api.OK {
		t.Errorf("the 64th: %d, %v", n, e)
	}
	for range 2 {
		if n, e := s.Add(api.Symbol{Name: "more"}); n != 0 || e != api.ErrSigMany {
			t.Errorf("the 65th: %d, %v", n, e)
		}
	}
	mustHold(t, s, many(64))
	if n, e := s.Find("more"); n != 0 || e != api.ErrSigNone {
		t.Errorf("Find what was refused: %d, %v", n, e)
	}
}

// P1.2, R2: where several errors apply, the first one that the promise names.
func TestAddErrorsInOrder(t *testing.T) {
	full := filled(t, many(64))
	some := filled(t, numbers())
	for _, c := range []struct {
		what string
		s    *sig.Sig
		x    api.Symbol
		e    api.Errno
	}{
		{"nil, name, arity", nil, api.Symbol{Name: "Z", Arity: 7}, api.ErrArg},
		{"name, arity", some, api.Symbol{Name: "Z", Arity: 7}, api.ErrSigName},
		{"name, arity, many", full, api.Symbol{Name: "Z", Arity: -1}, api.ErrSigName},
		{"name, many", full, api.Symbol{Name: ""}, api.ErrSigName},
		{"arity, twice", some, api.Symbol{Name: "z", Arity: 7}, api.ErrSigArity},
		{"arity, twice, many", full, api.Symbol{Name: "f0", Arity: -1}, api.ErrSigArity},
		{"arity, many", full, api.Symbol{Name: "g", Arity: 7}, api.ErrSigArity},
		{"twice, many", full, api.Symbol{Name: "f0"}, api.ErrSigTwice},
		{"many", full, api.Symbol{Name: "g"}, api.ErrSigMany},
	} {
		if n, e := c.s.Add(c.x); n != 0 || e != c.e {
			t.Errorf("%s: Add %v: %d, %v", c.what, c.x, n, e)
		}
	}
	mustHold(t, full, many(64))
	mustHold(t, some, numbers())
}

// P1.3: names that nobody has.
func TestFindNone(t *testing.T) {
	for _, s := range []*sig.Sig{sig.New(), filled(t, numbers())} {
		for _, name := range []string{"sub", "", "ad", "addd", "Add", "S", " z", "z\x00", "\xff", strings.Repeat("z", 1000)} {
			if n, e := s.Find(name); n != 0 || e != api.ErrSigNone {
				t.Errorf("Find %q: %d, %v", name, n, e)
			}
		}
	}
}

// P1.3: where all symbols are of one kind, there is none of the other.
func TestOfOneKind(t *testing.T) {
	for _, defined := range []bool{true, false} {
		s := filled(t, []api.Symbol{{Name: "a", Defined: defined}, {Name: "b", Arity: 2, Defined: defined}})
		if l := s.Of(defined); !slices.Equal(l, []int{0, 1}) {
			t.Errorf("Of(%v): %v", defined, l)
		}
		if l := s.Of(!defined); len(l) != 0 {
			t.Errorf("Of(%v): %v", !defined, l)
		}
	}
}

// P1.3: neither a signature nor its copy sees what is done to the other.
func TestCopy(t *testing.T) {
	for _, size := range []int{0, 1, 2, 3, 5, 8, 33, 63, 64} {
		s := filled(t, many(size))
		c := s.Copy()
		if c == nil || c == s {
			t.Fatalf("Copy of %d is no other one", size)
		}
		mustHold(t, c, many(size))
		if size == 64 {
			continue
		}
		here, there := api.Symbol{Name: "here", Arity: 1}, api.Symbol{Name: "there", Defined: true}
		s.Add(here)
		mustHold(t, c, many(size))
		c.Add(there)
		mustHold(t, s, append(many(size), here))
		mustHold(t, c, append(many(size), there))
		if n, e := c.Find("here"); n != 0 || e != api.ErrSigNone {
			t.Errorf("a copy finds what was added later: %d, %v", n, e)
		}
		if n, e := s.Find("there"); n != 0 || e != api.ErrSigNone {
			t.Errorf("what was added to a copy is found: %d, %v", n, e)
		}
	}
}

// P1.3: a copy of a copy, and a copy that outgrows what it was made of.
func TestCopyGrows(t *testing.T) {
	s := filled(t, numbers())
	c := s.Copy().Copy()
	for _, x := range many(61) {
		c.Add(x)
	}
	if n, e := c.Add(api.Symbol{Name: "more"}); n != 0 || e != api.ErrSigMany {
		t.Errorf("the 65th of a copy: %d, %v", n, e)
	}
	mustHold(t, c, append(numbers(), many(61)...))
	mustHold(t, s, numbers())
}

// P1.4: numbers never change, whatever is added or refused; and Find undoes At.
func TestNumbersStay(t *testing.T) {
	l := many(64)
	s := sig.New()
	for i, x := range l {
		if n, e := s.Add(x); n != i || e != api.OK {
			t.Fatalf("Add %v: %d, %v", x, n, e)
		}
		s.Add(api.Symbol{Name: "No"})
		s.Add(api.Symbol{Name: "no", Arity: -1})
		s.Add(api.Symbol{Name: l[0].Name, Arity: 3})
		for k := range i + 1 {
			y, _ := s.At(k)
			if n, e := s.Find(y.Name); y != l[k] || n != k || e != api.OK {
				t.Fatalf("At %d: %v, found at %d, %v", k, y, n, e)
			}
		}
	}
}

// R1: a nil signature: ErrArg where an error is answered, else zero values.
func TestNilSignature(t *testing.T) {
	var s *sig.Sig
	for _, x := range []api.Symbol{{Name: "x"}, {Name: "X"}, {Name: "x", Arity: 9}, {}} {
		if n, e := s.Add(x); n != 0 || e != api.ErrArg {
			t.Errorf("Add %v: %d, %v", x, n, e)
		}
	}
	for _, n := range []int{0, -1, 64} {
		if x, e := s.At(n); x != (api.Symbol{}) || e != api.ErrArg {
			t.Errorf("At %d: %v, %v", n, x, e)
		}
	}
	for _, name := range []string{"x", ""} {
		if n, e := s.Find(name); n != 0 || e != api.ErrArg {
			t.Errorf("Find %q: %d, %v", name, n, e)
		}
	}
	if s.Len() != 0 || s.Copy() != nil || len(s.Of(true)) != 0 || len(s.Of(false)) != 0 {
		t.Error("of none: Len, Copy, Of")
	}
	for n, x := range s.All() {
		t.Errorf("All of none: %d, %v", n, x)
	}
}

// R1: a signature that New did not make is one without symbols.
func TestHandMadeSignature(t *testing.T) {
	var s sig.Sig
	mustHold(t, &s, nil)
	c := s.Copy()
	for _, h := range []*sig.Sig{&s, c, {}} {
		if n, e := h.Find("s"); n != 0 || e != api.ErrSigNone {
			t.Errorf("Find: %d, %v", n, e)
		}
		for i, x := range numbers() {
			if n, e := h.Add(x); n != i || e != api.OK {
				t.Errorf("Add %v: %d, %v", x, n, e)
			}
		}
		mustHold(t, h, numbers())
	}
}

// R3: what is refused leaves nothing behind: the name is free, the number too.
func TestRefusedLeavesNothing(t *testing.T) {
	s := filled(t, numbers())
	if _, e := s.Add(api.Symbol{Name: "f", Arity: 7}); e != api.ErrSigArity {
		t.Fatal(e)
	}
	mustHold(t, s, numbers())
	if n, e := s.Find("f"); n != 0 || e != api.ErrSigNone {
		t.Errorf("Find: %d, %v", n, e)
	}
	f := api.Symbol{Name: "f", Arity: 6, Defined: true}
	if n, e := s.Add(f); n != 3 || e != api.OK {
		t.Errorf("Add: %d, %v", n, e)
	}
	mustHold(t, s, append(numbers(), f))
}

// R4: what Of answers is new memory, spare room too.
func TestOfIsNewMemory(t *testing.T) {
	s := filled(t, many(40))
	for _, defined := range []bool{true, false} {
		a, b := s.Of(defined), s.Of(defined)
		want := slices.Clone(a)
		a = a[:cap(a)]
		for i := range a {
			a[i] = -5
		}
		if !slices.Equal(b, want) {
			t.Errorf("Of(%v): an answer changed: %v", defined, b)
		}
	}
	mustHold(t, s, many(40))
}

// R4: a range may be left early, and ranged over again.
func TestAllLeftEarly(t *testing.T) {
	s := filled(t, many(10))
	all := s.All()
	for stop := range 10 {
		seen := 0
		for n := range all {
			seen++
			if n == stop {
				break
			}
		}
		if seen != stop+1 {
			t.Errorf("left at %d: %d seen", stop, seen)
		}
	}
	var l []api.Symbol
	for _, x := range all {
		l = append(l, x)
	}
	if !slices.Equal(l, many(10)) {
		t.Errorf("ranged over again: %v", l)
	}
}

// R4: a range goes through what was there when it began; the next one through what came since.
func TestAllWhileAdding(t *testing.T) {
	for size := range 40 {
		s := filled(t, many(size))
		all := s.All()
		s.Add(many(size + 1)[size])
		seen := 0
		for range all {
			seen++
			s.Add(api.Symbol{Name: "g" + strconv.Itoa(seen)})
		}
		if seen != size+1 {
			t.Errorf("%d symbols when the range began, %d seen", size+1, seen)
		}
		again := 0
		for range all {
			again++
		}
		if again != s.Len() {
			t.Errorf("%d symbols, %d seen again", s.Len(), again)
		}
	}
}

// R4: a range within a range over the same function.
func TestAllNested(t *testing.T) {
	all := filled(t, many(7)).All()
	var pairs [][2]int
	for a := range all {
		for b := range all {
			pairs = append(pairs, [2]int{a, b})
		}
	}
	if len(pairs) != 49 || pairs[0] != [2]int{0, 0} || pairs[10] != [2]int{1, 3} || pairs[48] != [2]int{6, 6} {
		t.Errorf("%d pairs: %v", len(pairs), pairs)
	}
}

// R5: the same calls give the same answers each time, whatever order a map has.
func TestSameEachTime(t *testing.T) {
	for range 50 {
		s := filled(t, many(64))
		mustHold(t, s, many(64))
		mustHold(t, s.Copy(), many(64))
	}
}

// Errors: OK is 0, and each of the layer's errors is its own number, found by errors.Is.
func TestErrorNumbers(t *testing.T) {
	for e, n := range map[api.Errno]int{api.OK: 0, api.ErrArg: 1, api.ErrSigName: 10, api.ErrSigArity: 11, api.ErrSigTwice: 12, api.ErrSigMany: 13, api.ErrSigNone: 14} {
		if int(e) != n || !errors.Is(error(e), api.Errno(n)) {
			t.Errorf("%d is not %d", int(e), n)
		}
	}
	if api.MaxSymbols != 64 || api.MaxArity != 6 || api.MaxName != 12 {
		t.Error("limits")
	}
}
