package need_test

import (
	"math"
	"slices"
	"strconv"
	"strings"
	"testing"

	"ropewalk/api"
	"ropewalk/system"
)

// asked is a system, and a test that asks about terms that are written out.
type asked struct {
	t testing.TB
	y *system.System
}

// rigid asks Rigid at all places of a term: t where it is so, f where it is not.
func (q asked) rigid(text, want string) {
	q.t.Helper()
	l := read(q.t, q.y, text)
	if len(want) != len(l) {
		q.t.Fatalf("%s has %d places, not %d", text, len(l), len(want))
	}
	for place := range l {
		if got := rigid(q.t, q.y, l, place); got != strconv.FormatBool(want[place] == 't') {
			q.t.Errorf("Rigid of %s, %d: %s", text, place, got)
		}
	}
}

// finds asks Find for a redex, as place:rule; "none": there is none.
func (q asked) finds(text, want string) {
	q.t.Helper()
	want += " true"
	if want == "none true" {
		want = "0:0 false"
	}
	if got := find(q.t, q.y, read(q.t, q.y, text)); got != want {
		q.t.Errorf("Find of %s: %s, not %s", text, got, want)
	}
}

// becomes asks Reduce for a term, which is not in normal form, by a number of contractions that are all done.
func (q asked) becomes(text string, most int, want string) {
	q.t.Helper()
	q.reduces(text, most, want, most, false)
}

// ends asks Reduce for the normal form of a term, and of how many contractions it comes.
func (q asked) ends(text string, n int, want string) {
	q.t.Helper()
	for _, most := range []int{n, n + 1, n + 7, 1000, 1001, math.MaxInt} {
		q.reduces(text, most, want, n, true)
	}
}

func (q asked) reduces(text string, most int, want string, n int, isNormal bool) {
	q.t.Helper()
	got := reduce(q.t, q.y, read(q.t, q.y, text), most)
	if want := reduced(read(q.t, q.y, want), n, isNormal); got != want {
		q.t.Errorf("Reduce of %s by %d: %s, not %s", text, most, got, want)
	}
}

// P20.1 to P20.3: the chapter's examples.
func TestExamples(t *testing.T) {
	q := asked{t, made(t, "con z/0, s/1, p/2; fun d/1, r/0, add/2", "d(X) -> p(X,X); r -> z; add(z,Y) -> Y; add(s(X),Y) -> s(add(X,Y))")}
	q.finds("add(add(z,r),r)", "1:2")
	q.finds("d(r)", "0:0")
	q.finds("p(z,r)", "2:1")
	q.finds("add(p(z,r),r)", "3:1")
	q.finds("add(s(r),r)", "0:3")
	q.finds("s(z)", "none")
	q.rigid("add(add(p(z,z),r),r)", "tttttff")
	q.becomes("add(s(z),r)", 0, "add(s(z),r)")
	q.becomes("add(s(z),r)", 1, "s(add(z,r))")
	q.becomes("add(s(z),r)", 2, "s(r)")
	q.reduces("add(s(z),r)", 9, "s(z)", 3, true)
	q.ends("add(s(z),r)", 3, "s(z)")
}

// P20.1: a list that is no term, and what term.Check tells of it; a term with a variable, of which that tells nothing; both ahead of the place.
func TestNoClosedTerm(t *testing.T) {
	y := full(t)
	for _, c := range []struct {
		l    api.Term
		want string
	}{
		{nil, "200@0 23"},
		{api.Term{}, "200@0 23"},
		{api.Term{s}, "200@0 23"},
		{api.Term{p, z}, "200@0 23"},
		{api.Term{z, z}, "200@0 23"},
		{api.Term{r, r}, "200@0 23"},
		{api.Term{d, r, z}, "200@0 23"},
		{api.Term{s, -1, -1}, "200@0 23"}, // no term, whatever its variables are
		{api.Term{lacking}, "200@0 21"},
		{api.Term{d, lacking}, "200@0 21"},
		{api.Term{lacking, -100, s}, "200@0 21"},
		{api.Term{math.MaxInt}, "200@0 21"},
		{api.Term{-100}, "200@0 22"},
		{api.Term{p, r, -100}, "200@0 22"},
		{api.Term{-100, lacking}, "200@0 22"},
		{api.Term{math.MinInt, z}, "200@0 22"},
		{chain(2001, s, z), "200@0 20"},
		{chain(2001, lacking, -100), "200@0 20"},
		{chain(5000, s, -1), "200@0 20"},
		{api.Term{-1}, "200@0"},
		{api.Term{-99}, "200@0"},
		{api.Term{d, -1}, "200@0"},
		{api.Term{p, r, -7}, "200@0"},
		{api.Term{p, -99, r}, "200@0"},
		{api.Term{k, z, -1}, "200@0"}, // a redex in which the variable is not needed
		{chain(2000, d, -1), "200@0"},
	} {
		refuses(t, y, c.l, c.want)
	}
}

// P20.1: places that a term has not.
func TestNoPlace(t *testing.T) {
	y := full(t)
	for _, l := range []api.Term{{z}, {r}, {d, r}, {add, add, z, r, r}, chain(2000, s, r)} {
		for _, place := range []int{math.MinInt, -2, -1, len(l), len(l) + 1, 2000, 2001, math.MaxInt} {
			is(t, "Rigid", l, place, rigid(t, y, l, place), "false 181@0")
		}
		is(t, "Rigid", l, len(l)-1, rigid(t, y, l, len(l)-1), strconv.FormatBool(l[len(l)-1] == z))
	}
}

// P20.1: constructors are rigid; so is what no rule will ever fit, whether for what stands beneath it, or because nothing beneath it will ever be what a rule asks for. What may become rigid is not, yet.
func TestRigid(t *testing.T) {
	q := asked{t, full(t)}
	for text, want := range map[string]string{
		"z":                                "t",
		"s(r)":                             "tf",
		"p(d(r),s(loop))":                  "tff tf",
		"r":                                "f",
		"loop":                             "f",
		"d(z)":                             "ft",
		"g(r,r,r,r,r,r)":                   "t ffffff", // without rules
		"add(z,r)":                         "ftf",
		"add(s(r),r)":                      "ftff",
		"add(p(r,z),r)":                    "ttftf", // a constructor that no rule has there
		"add(r,z)":                         "fft",   // what hangs on a redex
		"add(add(r,z),z)":                  "ffftt",
		"add(loop,z)":                      "fft",  // a redex again and again
		"add(d(r),z)":                      "ffft", // rigid once that is p(r,r)
		"add(i(add(p(z,z),z)),z)":          "ff ttttt t",
		"add(k(z,r),g(r,r,r,r,r,r))":       "fftf tffffff",
		"p(add(p(z,z),d(r)),add(z,z))":     "t ttttff ftt",
		"add(g(loop,z,z,z,z,z),r)":         "t tfttttt f",
		"add(add(add(p(z,z),z),z),z)":      "ttttttttt",
		"add(add(add(s(z),z),z),z)":        "ffftttt t",
		"f(r,r,r)":                         "ffff",
		"f(z,z,r)":                         "fttf",
		"f(z,r,r)":                         "ftff",
		"f(z,s(r),r)":                      "tttff",
		"f(z,d(r),loop)":                   "ftfff",
		"f(z,add(p(z,z),z),r)":             "tt ttttt f",
		"f(s(r),r,z)":                      "ftfft",
		"f(s(r),g(z,z,z,z,z,z),z)":         "ftf ttttttt t",
		"f(s(r),r,loop)":                   "ftfff",
		"f(s(r),loop,s(r))":                "ttff tf",
		"f(s(r),r,g(r,z,z,z,z,z))":         "ttff tfttttt",
		"f(p(r,s(r)),r,r)":                 "ftftfff",
		"f(p(r,z),r,r)":                    "ttftff",
		"f(p(r,p(r,r)),r,r)":               "ttf tff ff",
		"f(p(r,r),r,r)":                    "ftffff",
		"f(p(r,g(z,z,z,z,z,z)),r,r)":       "ttf ttttttt ff",
		"f(p(g(z,z,z,z,z,z),r),r,r)":       "ft ttttttt fff",
		"f(six(z,z,z,z,z,z),r,r)":          "ttttttttff",
		"f(add(p(z,z),r),z,z)":             "t ttttf tt",
		"f(f(z,s(z),r),z,z)":               "t ttttf tt",
		"f(f(z,r,s(z)),z,z)":               "f ftftt tt",
		"add(f(p(z,add(p(z,z),r)),r,z),r)": "t ttt ttttf ft f",
		// Rigid ones beneath what is not, and the other way round.
		"d(add(p(z,z),r))":                    "f ttttf",
		"i(g(r,r,r,r,r,r))":                   "f tffffff",
		"k(add(p(z,z),z),r)":                  "f ttttt f",
		"e(d(add(p(z,z),z)))":                 "ff ttttt",
		"g(d(g(r,z,z,z,z,z)),z,z,z,z,r)":      "t f tfttttt ttttf",
		"six(r,g(r,z,z,z,z,z),z,d(z),s(r),r)": "tf tfttttt t ft tf f",
	} {
		q.rigid(text, strings.ReplaceAll(want, " ", ""))
	}
}

// P20.2: the root; what it hangs on; what that hangs on.
func TestFindDemanded(t *testing.T) {
	q := asked{t, full(t)}
	for text, want := range map[string]string{
		"r":                            "0:1",
		"loop":                         "0:6",
		"i(loop)":                      "0:5",
		"k(loop,r)":                    "0:4",
		"e(e(grow))":                   "0:10",
		"d(add(z,r))":                  "0:0",
		"add(s(r),r)":                  "0:3",
		"add(r,r)":                     "1:1",
		"add(loop,r)":                  "1:6",
		"add(d(r),r)":                  "1:0",
		"add(i(add(loop,z)),r)":        "1:5",
		"add(add(add(r,z),z),z)":       "3:1",
		"add(add(s(add(r,r)),r),r)":    "1:3",
		"f(r,r,r)":                     "1:1",
		"f(add(r,z),r,r)":              "2:1",
		"f(z,r,loop)":                  "2:1",
		"f(z,z,loop)":                  "0:7",
		"f(z,f(z,r,r),loop)":           "4:1",
		"f(s(loop),loop,r)":            "4:1",
		"f(s(loop),loop,z)":            "0:8",
		"f(p(r,i(s(z))),r,r)":          "3:5",
		"f(p(r,k(loop,d(r))),r,r)":     "3:4",
		"f(p(r,add(r,loop)),r,r)":      "4:1",
		"f(p(r,s(loop)),r,r)":          "0:9",
		"f(f(f(z,r,z),z,z),z,z)":       "4:1",
		"f(p(r,f(s(r),r,k(z,r))),r,r)": "7:4",
		"add(f(z,i(z),r),loop)":        "3:5",
	} {
		q.finds(text, want)
	}
}

// P20.2: where the root is rigid: the first argument that has a needed place, and that of it; where some or all arguments are in normal form.
func TestFindBeneathRigid(t *testing.T) {
	q := asked{t, full(t)}
	for text, want := range map[string]string{
		"s(r)":                      "1:1",
		"p(r,loop)":                 "1:1",
		"p(loop,r)":                 "1:6",
		"p(z,d(r))":                 "2:0",
		"p(p(z,s(z)),d(r))":         "5:0",
		"p(p(z,s(d(z))),d(r))":      "4:0",
		"s(s(s(add(r,z))))":         "4:1",
		"p(add(add(r,z),z),r)":      "3:1",
		"p(z,add(add(r,z),z))":      "4:1",
		"g(z,s(r),r,r,r,r)":         "3:1",
		"g(z,z,z,z,z,i(r))":         "6:5",
		"add(p(z,r),r)":             "3:1",
		"add(p(z,z),r)":             "4:1",
		"add(p(r,z),loop)":          "2:1",
		"add(add(p(z,z),r),r)":      "5:1",
		"add(f(z,s(z),r),r)":        "5:1",
		"add(g(z,z,z,z,z,z),d(z))":  "8:0",
		"f(z,s(r),r)":               "3:1",
		"f(g(r,r,r,r,r,r),r,r)":     "2:1",
		"f(p(z,z),add(r,z),r)":      "5:1",
		"f(s(z),loop,s(r))":         "3:6",
		"f(s(z),z,s(loop))":         "5:6",
		"f(z,add(p(z,z),z),i(r))":   "7:5",
		"f(z,add(p(z,z),s(r)),r)":   "7:1",
		"six(z,z,z,z,s(z),grow)":    "7:11",
		"six(z,z,z,z,s(loop),grow)": "6:6",
		"six(z,s(z),g(z,z,z,z,z,z),add(p(z,z),z),i(z),r)": "16:5",
	} {
		q.finds(text, want)
	}
	for _, text := range []string{"z", "s(z)", "p(z,s(z))", "six(z,z,z,z,z,z)", "g(z,z,z,z,z,z)", "g(z,s(z),p(z,z),z,z,g(z,z,z,z,z,z))", "add(p(z,z),z)",
		"add(add(p(z,z),z),s(z))", "add(g(z,z,z,z,z,z),s(z))", "f(z,s(z),z)", "f(s(z),z,s(z))", "f(p(z,z),z,z)", "f(p(z,g(z,z,z,z,z,z)),z,z)", "p(f(z,s(z),z),add(p(z,z),z))"} {
		q.finds(text, "none")
		q.ends(text, 0, text)
		q.rigid(text, strings.Repeat("t", len(read(t, q.y, text))))
	}
}

// P20.3: one contraction after the other; each by which place is needed then.
func TestReduce(t *testing.T) {
	q := asked{t, full(t)}
	for _, l := range [][]string{
		{"r", "z"},
		{"grow", "s(z)"},
		{"k(z,loop)", "z"},
		{"k(k(r,loop),d(loop))", "k(r,loop)", "r", "z"},
		{"d(r)", "p(r,r)", "p(z,r)", "p(z,z)"},
		{"d(k(z,loop))", "p(k(z,loop),k(z,loop))", "p(z,k(z,loop))", "p(z,z)"},
		{"add(add(s(z),r),r)", "add(s(add(z,r)),r)", "s(add(add(z,r),r))", "s(add(r,r))", "s(add(z,r))", "s(r)", "s(z)"},
		{"add(d(r),r)", "add(p(r,r),r)", "add(p(z,r),r)", "add(p(z,z),r)", "add(p(z,z),z)"}, // it becomes rigid on the way
		{"f(r,k(z,loop),i(r))", "f(z,k(z,loop),i(r))", "f(z,z,i(r))", "i(r)", "r", "z"},
		{"f(r,s(r),i(r))", "f(z,s(r),i(r))", "f(z,s(z),i(r))", "f(z,s(z),r)", "f(z,s(z),z)"},
		{"f(s(r),r,r)", "f(s(r),r,z)", "f(r,r,r)", "f(z,r,r)", "f(z,z,r)", "r", "z"},
		{"f(p(r,grow),z,z)", "f(p(r,s(z)),z,z)", "six(r,z,z,z,r,s(d(z)))", "six(z,z,z,z,r,s(d(z)))", "six(z,z,z,z,z,s(d(z)))", "six(z,z,z,z,z,s(p(z,z)))"},
		{"p(add(r,r),e(r))", "p(add(z,r),e(r))", "p(r,e(r))", "p(z,e(r))", "p(z,p(r,s(r)))", "p(z,p(z,s(r)))", "p(z,p(z,s(z)))"},
		{"g(i(r),z,d(z),z,z,z)", "g(r,z,d(z),z,z,z)", "g(z,z,d(z),z,z,z)", "g(z,z,p(z,z),z,z,z)"},
	} {
		last := len(l) - 1
		for n, text := range l[:last] {
			q.becomes(l[0], n, text)
			q.becomes(text, 0, text)
			q.ends(text, last-n, l[last])
		}
	}
}

// P20.3: none is contracted, if most is below 1.
func TestReduceByNone(t *testing.T) {
	q := asked{t, full(t)}
	for _, most := range []int{0, -1, -2, -1000, math.MinInt} {
		for _, text := range []string{"r", "loop", "d(r)", "p(z,r)", "add(p(z,z),r)"} {
			q.reduces(text, most, text, 0, false)
		}
		for _, text := range []string{"z", "p(z,s(z))", "add(p(z,z),z)"} {
			q.reduces(text, most, text, 0, true)
		}
	}
}

// P20.3: what goes on for ever: so many as may be, and no more than MaxMoves.
func TestReduceForEver(t *testing.T) {
	q := asked{t, full(t)}
	for text, want := range map[string]string{
		"loop":             "loop",
		"add(loop,r)":      "add(loop,r)",
		"p(loop,r)":        "p(loop,r)", // the first argument, and never the second one
		"add(p(z,loop),r)": "add(p(z,loop),r)",
		"s(k(loop,z))":     "s(loop)",
	} {
		for most, n := range map[int]int{1: 1, 2: 2, 17: 17, 999: 999, 1000: 1000, 1001: 1000, 1002: 1000, 5000: 1000, math.MaxInt: 1000} {
			q.reduces(text, most, want, n, false)
		}
	}
}

// chain is so many numbers: one symbol of one argument over and over, and another number last.
func chain(size, symbol, last int) api.Term {
	return append(slices.Repeat(api.Term{symbol}, size-1), last)
}

var join = slices.Concat[api.Term]

// sum is add, n times s of z, z: it takes n + 1 contractions, none of which makes it longer.
func sum(n int) api.Term { return join(api.Term{add}, chain(n+1, s, z), api.Term{z}) }

// P20.3: a normal form that MaxMoves contractions lead to, and one that is one more away.
func TestReduceByMaxMoves(t *testing.T) {
	y := full(t)
	for _, c := range []struct {
		l, u     api.Term
		most, n  int
		isNormal bool
	}{
		{sum(999), join(chain(1000, s, add), api.Term{z, z}), 999, 999, false},
		{sum(999), chain(1000, s, z), 1000, 1000, true},
		{sum(999), chain(1000, s, z), 1001, 1000, true},
		{sum(999), chain(1000, s, z), math.MaxInt, 1000, true},
		{sum(998), chain(999, s, z), 1000, 999, true},
		{sum(1000), join(chain(1001, s, add), api.Term{z, z}), 1000, 1000, false},
		{sum(1000), join(chain(1001, s, add), api.Term{z, z}), 1001, 1000, false},
		{sum(1000), join(chain(1001, s, add), api.Term{z, z}), math.MaxInt, 1000, false},
		{chain(2000, i, r), chain(1000, i, r), math.MaxInt, 1000, false},
		{chain(1000, i, r), api.Term{z}, math.MaxInt, 1000, true},
		{chain(1001, i, r), api.Term{r}, 1000, 1000, false},
	} {
		is(t, "Reduce", c.l, c.most, reduce(t, y, c.l, c.most), reduced(c.u, c.n, c.isNormal))
	}
}

// P20.3: a term of MaxTerm symbols may come of a contraction, and one of one more may not: how many were contracted ahead of it is told, though not what came of them.
func TestReduceLong(t *testing.T) {
	y := full(t)
	numeral := func(size int) api.Term { return chain(size, s, z) }
	growing := func(ahead api.Term, size int) api.Term { // grows twice, and a third time at its end
		return join(api.Term{p}, ahead, api.Term{p, grow, p, grow}, chain(size-len(ahead)-5, s, grow))
	}
	last := func(ahead api.Term, size int) api.Term { return join(api.Term{p}, ahead, numeral(size-1-len(ahead))) }
	for _, c := range []struct {
		what string
		l    api.Term
		most int
		want string
	}{
		{"just so long", chain(1999, s, grow), 1, reduced(numeral(2000), 1, true)},
		{"one more", chain(2000, s, grow), 1, "[] 0 false 183@0"},
		{"one more, beyond most", chain(2000, s, grow), 0, reduced(chain(2000, s, grow), 0, false)},
		{"one more, far beyond most", chain(2000, s, grow), -9, reduced(chain(2000, s, grow), 0, false)},
		{"the part just so long", join(api.Term{s, d}, numeral(999)), 9, reduced(join(api.Term{s, p}, numeral(999), numeral(999)), 1, true)},
		{"the part alone too long", join(api.Term{d}, numeral(1000)), 9, "[] 0 false 183@0"},
		{"far too long", join(api.Term{d}, numeral(1999)), math.MaxInt, "[] 0 false 183@0"},
		{"behind another one", join(api.Term{p, r}, chain(1998, s, grow)), 9, "[] 0 false 183@1"},
		{"behind the last one", join(api.Term{p, r}, chain(1998, s, grow)), 1, reduced(join(api.Term{p, z}, chain(1998, s, grow)), 1, false)},
		{"behind one that makes room", join(api.Term{p, i, z}, chain(1997, s, grow)), 9, reduced(last(api.Term{z}, 2000), 2, true)},
		{"thrown away ahead of it", join(api.Term{k, z, d}, numeral(1500)), 9, reduced(api.Term{z}, 1, true)},
		{"not thrown away", join(api.Term{p, z, d}, numeral(1500)), 9, "[] 0 false 183@0"},
		{"the second one of two", join(api.Term{p, d}, numeral(600), api.Term{d}, numeral(600)), 9, "[] 0 false 183@1"},
		{"the first one of two", join(api.Term{p, d}, numeral(600), api.Term{d}, numeral(600)), 1, reduced(join(api.Term{p, p}, numeral(600), numeral(600), api.Term{d}, numeral(600)), 1, false)},
		{"doubled till it is too long", join(api.Term{d, d, d, d}, numeral(124)), 99, reduced(doubled(4, numeral(124)), 15, true)},
		{"doubled, and a bit more", join(api.Term{d, d, d, d}, numeral(125)), 99, "[] 0 false 183@14"},
		{"the last one that may be", growing(sum(996), 2000), 1000, "[] 0 false 183@999"},
		{"the last one that may be, of more", growing(sum(996), 2000), math.MaxInt, "[] 0 false 183@999"},
		{"one ahead of it", growing(sum(996), 2000), 999, reduced(join(api.Term{p}, numeral(997), api.Term{p, s, z, p, s, z}, chain(996, s, grow)), 999, false)},
		{"one behind it", growing(sum(997), 2000), 1000, reduced(join(api.Term{p}, numeral(998), api.Term{p, s, z, p, s, z}, chain(995, s, grow)), 1000, false)},
		{"one behind it, of more", growing(sum(997), 2000), 1001, reduced(join(api.Term{p}, numeral(998), api.Term{p, s, z, p, s, z}, chain(995, s, grow)), 1000, false)},
	} {
		if len(c.l) > 2000 {
			t.Fatalf("%s: %d symbols", c.what, len(c.l))
		}
		if got := reduce(t, y, c.l, c.most); got != c.want {
			t.Errorf("%s: Reduce by %d: %.200s, %d; not %.200s, %d", c.what, c.most, got, len(got), c.want, len(c.want))
		}
	}
}

// doubled is a tree of p, so deep, whose ends are all one term.
func doubled(depth int, l api.Term) api.Term {
	for range depth {
		l = join(api.Term{p}, l, l)
	}
	return l
}

// P20.1 to P20.3: terms of MaxTerm symbols, that hang on one another from the root to the last place, or are rigid all the way.
func TestDeep(t *testing.T) {
	y := full(t)
	hanging := func(innermost int, behind int) api.Term { // add(add(..add(x,z)..,z),z), the first argument being all but the root's z
		return join(slices.Repeat(api.Term{add}, behind), api.Term{innermost}, slices.Repeat(api.Term{z}, behind))
	}
	for _, c := range []struct {
		what    string
		l       api.Term
		isRigid bool
		found   string
	}{
		{"on a redex", hanging(r, 999), false, "999:1 true"},
		{"on one of the innermost", hanging(z, 999), false, "998:2 true"},
		{"on what goes on for ever", hanging(loop, 999), false, "999:6 true"},
		{"on nothing", join(slices.Repeat(api.Term{add}, 998), api.Term{p, z, z}, slices.Repeat(api.Term{z}, 998)), true, "0:0 false"},
		{"on nothing, with a redex within", join(slices.Repeat(api.Term{add}, 998), api.Term{p, z, r}, slices.Repeat(api.Term{z}, 998)), true, "1000:1 true"},
		{"on nothing, with a redex at its end", join(slices.Repeat(api.Term{add}, 998), api.Term{p, z, z}, slices.Repeat(api.Term{z}, 997), api.Term{r}), true, "1998:1 true"},
		{"constructors, a redex", chain(2000, s, r), true, "1999:1 true"},
		{"constructors", chain(2000, s, z), true, "0:0 false"},
		{"redexes within one another", chain(2000, d, r), false, "0:0 true"},
	} {
		if len(c.l) > 2000 {
			t.Fatalf("%s: %d symbols", c.what, len(c.l))
		}
		is(t, "Rigid", c.l, 0, rigid(t, y, c.l, 0), strconv.FormatBool(c.isRigid))
		is(t, "Find", c.l, 0, find(t, y, c.l), c.found)
	}
	is(t, "Reduce", nil, 999, reduce(t, y, hanging(z, 999), 1000), reduced(api.Term{z}, 999, true))
	is(t, "Reduce", nil, 999, reduce(t, y, hanging(r, 999), 999), reduced(api.Term{add, z, z}, 999, false))
}

// P20.1 to P20.3: rules of MaxSide numbers a side, that look at as many places.
func TestLongRules(t *testing.T) {
	y := made(t, "con z/0, s/1; fun f/1")
	for n := range 49 {
		if err := y.AddRules([]api.Rule{{Left: join(api.Term{2}, chain(199-n, s, z)), Right: chain(200-n, s, z)}}); err != nil {
			t.Fatal(told(t, err))
		}
	}
	l := join(api.Term{2}, chain(199, s, 2), chain(199, s, 2), chain(198, s, z))
	is(t, "Find", l, 0, find(t, y, l), "398:1 true")
	is(t, "Rigid", l, 0, rigid(t, y, l, 0), "false")
	is(t, "Reduce", l, 1, reduce(t, y, l, 1), reduced(join(l[:398], chain(199, s, z)), 1, true)) // what hung on it is rigid then
	l = join(api.Term{2}, chain(199, s, 2), chain(200, s, z))                                    // one s too many: no rule fits there any more
	is(t, "Find", l, 0, find(t, y, l), "0:0 false")
	is(t, "Rigid", l, 0, rigid(t, y, l, 0), "true")
	is(t, "Reduce", l, 1, reduce(t, y, l, 9), reduced(l, 0, true))
}
