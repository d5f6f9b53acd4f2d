package trace_test

import (
	"math"
	"math/rand"
	"slices"
	"strconv"
	"testing"

	"ropewalk/api"
	"ropewalk/trace"
)

// numbered are so many entries, no two of which are alike.
func numbered(count int) []api.Fired {
	l := make([]api.Fired, count)
	for x := range l {
		l[x] = api.Fired{Rule: x - 3, Path: slices.Repeat([]int{x % 7}, x%5)}
		l[x].Path = append(l[x].Path, x)
	}
	return l
}

// tells asks a log for all that it tells.
func tells(t testing.TB, what string, l *trace.Log, want string) {
	t.Helper()
	for range 2 { // a range may be gone through again
		if got := whole(l); got != want {
			t.Errorf("%s: %.300s, not %.300s", what, got, want)
		}
	}
}

// P17.1: the chapter's examples.
func TestLogExamples(t *testing.T) {
	for _, most := range []int{0, 1001} {
		if l, e := trace.New(most); l != nil || e != api.ErrArg {
			t.Errorf("New(%d): %v, %v", most, l, e)
		}
	}
	l := empty(t, 2)
	for _, x := range firedOf(t, "*:0, 0:1, 1:1") {
		l.Add(x)
	}
	tells(t, "the example", l, "2 of 3: 1: 1[0] 2: 1[1]")
}

// P17.1: how many entries there may be room for.
func TestNew(t *testing.T) {
	for _, most := range []int{math.MinInt, -1001, -1000, -2, -1, 0, 1001, 1002, 2000, 1 << 20, 1 << 31, 1 << 40, math.MaxInt} {
		if l, e := trace.New(most); l != nil || e != api.ErrArg {
			t.Errorf("New(%d): %v, %v", most, l, e)
		}
	}
	for _, most := range []int{1, 2, 3, 10, 500, 998, 999, 1000} {
		tells(t, "New of "+strconv.Itoa(most), empty(t, most), "0 of 0:")
	}
	if empty(t, 7) == empty(t, 7) {
		t.Error("two logs are one")
	}
}

// P17.1: logs of each small room, and of the greatest, with each number of entries: none, one less than there is room for, just full, one more, gone round many times.
func TestAdd(t *testing.T) {
	for most := 1; most <= 9; most++ {
		entries := numbered(40)
		l := empty(t, most)
		for count := range entries {
			tells(t, strconv.Itoa(count)+" of room "+strconv.Itoa(most), l, wholeOf(most, entries[:count]))
			l.Add(entries[count])
		}
		tells(t, "all of room "+strconv.Itoa(most), l, wholeOf(most, entries))
	}
	entries := numbered(5003)
	for _, most := range []int{999, 1000} {
		l := empty(t, most)
		for count := range entries {
			if slices.Contains([]int{0, 1, 998, 999, 1000, 1001, 1998, 1999, 2000, 2001, 4000, 4999, 5000}, count) {
				tells(t, strconv.Itoa(count)+" of room "+strconv.Itoa(most), l, wholeOf(most, entries[:count]))
			}
			l.Add(entries[count])
		}
		tells(t, "all of room "+strconv.Itoa(most), l, wholeOf(most, entries))
	}
}

// P17.1: what an entry says nobody asks; two alike are two.
func TestEntries(t *testing.T) {
	l := empty(t, 4)
	for _, x := range []api.Fired{{}, {Rule: math.MinInt}, {Rule: math.MaxInt, Path: []int{math.MinInt, -1, 0, math.MaxInt}}, {Path: []int{}}, {}, {Rule: -1, Path: make([]int, 5000)}} {
		l.Add(x)
		l.Add(x)
	}
	long := " -1" + numbers(make([]int, 5000))
	tells(t, "odd entries", l, "4 of 12: 8: 0[] 9: 0[] 10:"+long+" 11:"+long)
}

// P17.1: two logs stand on their own.
func TestTwoLogs(t *testing.T) {
	one, other := empty(t, 3), empty(t, 3)
	entries := numbered(10)
	for n, x := range entries {
		one.Add(x)
		other.Add(entries[9-n])
	}
	turned := slices.Clone(entries)
	slices.Reverse(turned)
	tells(t, "one", one, wholeOf(3, entries))
	tells(t, "other", other, wholeOf(3, turned))
}

// P17.1: a range goes through what was there when it began, whatever is added while it goes on.
func TestAddWhileRanged(t *testing.T) {
	entries := numbered(60)
	for most := 1; most <= 6; most++ {
		for had := range 14 {
			l := filled(t, most, entries[:had]...)
			next, met := had, []api.Fired(nil)
			for number, x := range l.All() {
				if number != max(0, had-most)+len(met) {
					t.Fatalf("room %d, %d entries: %d behind %d met", most, had, number, len(met))
				}
				met = append(met, x)
				for range had % 4 {
					l.Add(entries[next])
					next++
				}
			}
			if shown(met) != shown(entries[max(0, had-most):had]) {
				t.Errorf("room %d, %d entries: met %s", most, had, shown(met))
			}
			tells(t, "behind the range", l, wholeOf(most, entries[:next]))
		}
	}
}

// P17.1, R4: it is when a range begins that counts, not when All was called; a range may be left early, stand within another one, and be gone through again.
func TestRanges(t *testing.T) {
	entries := numbered(20)
	l := empty(t, 5)
	all := l.All()
	count := func() int {
		count := 0
		for range all {
			count++
		}
		return count
	}
	for had := range 12 {
		if count() != min(had, 5) || count() != min(had, 5) {
			t.Errorf("%d of %d entries", count(), had)
		}
		for leave := range 7 {
			var met []api.Fired
			for number, x := range all {
				if len(met) == leave {
					break
				}
				if number != max(0, had-5)+len(met) {
					t.Errorf("%d behind %d met", number, len(met))
				}
				met = append(met, x)
			}
			first := max(0, had-5)
			if shown(met) != shown(entries[first:min(had, first+leave)]) {
				t.Errorf("left behind %d of %d: %s", leave, had, shown(met))
			}
		}
		pairs := 0
		for outer := range all {
			for inner, x := range all {
				if shown([]api.Fired{x}) != shown(entries[inner:inner+1]) || outer < 0 {
					t.Errorf("%d: %v", inner, x)
				}
				pairs++
			}
		}
		if pairs != min(had, 5)*min(had, 5) {
			t.Errorf("%d pairs of %d entries", pairs, had)
		}
		l.Add(entries[had])
	}
	tells(t, "behind the ranges", l, wholeOf(5, entries[:12]))
}

// R1: a nil log takes nothing and tells nothing; one that was made by hand has room for nothing.
func TestNoLog(t *testing.T) {
	for _, l := range []*trace.Log{nil, {}} {
		tells(t, "no log", l, "0 of 0:")
	}
	var l *trace.Log
	for _, x := range numbered(3) {
		l.Add(x)
	}
	tells(t, "a nil log", l, "0 of 0:")
	l = &trace.Log{}
	for _, x := range numbered(3) {
		l.Add(x)
	}
	if has, _ := l.Len(); has != 0 {
		t.Errorf("%d entries where there is no room", has)
	}
	for number, x := range l.All() {
		t.Errorf("%d: %v where there is no room", number, x)
	}
}

// spoil fills a list, its spare room too, with what stands nowhere else.
func spoil(l []int) {
	l = l[:cap(l)]
	for x := range l {
		l[x] = -7777
	}
}

// R4: what is added is copied: it is neither changed, its spare room included, nor does the log hang on it.
func TestAddedIsCopied(t *testing.T) {
	for _, most := range []int{1, 2, 3, 9} {
		entries := numbered(12)
		l := empty(t, most)
		for count, x := range numbered(12) {
			path := append(slices.Clone(x.Path), 5, 6, 7)
			given := api.Fired{Rule: x.Rule, Path: path[:len(x.Path)]}
			l.Add(given)
			if given.Rule != x.Rule || !slices.Equal(path, append(slices.Clone(x.Path), 5, 6, 7)) {
				t.Errorf("%v became %v, %v", x, given, path)
			}
			spoil(path)
			tells(t, "what was added is spoilt", l, wholeOf(most, entries[:count+1]))
		}
		tells(t, "what was added is spoilt", l, wholeOf(most, entries))
	}
}

// R4: what is told is copied: two ranges share no memory, spare room too, and none with the log.
func TestToldIsCopied(t *testing.T) {
	entries := numbered(12)
	for _, most := range []int{1, 3, 12, 20} {
		l := filled(t, most, entries...)
		want := wholeOf(most, entries)
		var one, other []api.Fired
		for _, x := range l.All() {
			one = append(one, x)
		}
		for _, x := range l.All() {
			other = append(other, x)
		}
		before := shown(other)
		for n, x := range one {
			spoil(x.Path)
			for _, y := range one[n+1:] {
				if slices.Contains(y.Path, -7777) {
					t.Error("two entries share memory")
				}
			}
			if shown(other) != before {
				t.Error("two ranges share memory")
			}
			tells(t, "what was told is spoilt", l, want)
		}
		for number, x := range l.All() { // spoilt while the range goes on
			if shown([]api.Fired{x}) != shown(entries[number:number+1]) {
				t.Errorf("%d: %v", number, x)
			}
			spoil(x.Path)
		}
		tells(t, "what was told is spoilt", l, want)
	}
}

// P17.1: logs by chance, held against a plain list.
func TestLogByChance(t *testing.T) {
	random := rand.New(rand.NewSource(17))
	for range 60 {
		most := 1 + random.Intn(30)
		if random.Intn(8) == 0 {
			most = 1 + random.Intn(1000)
		}
		l := empty(t, most)
		var entries []api.Fired
		for range random.Intn(4 * most) {
			x := api.Fired{Rule: random.Intn(100), Path: random.Perm(random.Intn(6))}
			l.Add(x)
			entries = append(entries, x)
			if random.Intn(most) == 0 {
				tells(t, "by chance", l, wholeOf(most, entries))
			}
		}
		tells(t, "by chance", l, wholeOf(most, entries))
	}
}
