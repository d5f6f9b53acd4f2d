package machine_test

import (
	"math"
	"testing"

	"ropewalk/api"
)

// P15.2, case 1: no frame is left: Done, again and again; nothing changes.
func TestDone(t *testing.T) {
	m, h := begun(t, 9, "s(z)")
	steps(t, m, "go 1; back 0; back 1")
	before := whole(m, h)
	for range 5 {
		steps(t, m, "done")
		runs(t, m, 9, api.Ran{Done: true}, "")
		runs(t, m, 1, api.Ran{Done: true}, "")
		runs(t, m, 0, api.Ran{}, "")
	}
	if got := whole(m, h); got != before {
		t.Errorf("%s, not %s", got, before)
	}
}

// P15.2, case 2: what is Settled is left at once, constructors and defined symbols alike, of whatever frames.
func TestBackFromSettled(t *testing.T) {
	y := full(t)
	h := refilled(t, 20, app(z), app(g, 0, 0, 0, 0, 0, 0), app(s, 1), app(p, 2, 1), app(add, 1, 0))
	m := over(t, y, h)
	is(t, "Start", m.Start(2), api.OK)
	runs(t, m, 99, api.Ran{Steps: 16, Done: true}, "")
	has(t, h, "z!! g(0,0,0,0,0,0)!! s(1)!! p(2,1) add(1,0)")
	is(t, "Start", m.Start(2), api.OK)
	steps(t, m, "back 2; done")
	is(t, "Start", m.Start(1), api.OK)
	steps(t, m, "back 1; done")
	is(t, "Start", m.Start(3), api.OK)
	steps(t, m, "go 3; back 2; go 3; back 1; back 3; done")
	is(t, "Start", m.Start(4), api.OK)
	steps(t, m, "stiff 4; go 4; back 1; go 4; back 0; back 4; done") // a rule looks at what is Settled, too: it is known to be rigid
	has(t, h, "z!! g(0,0,0,0,0,0)!! s(1)!! p(2,1)!! add(1,0)!!")
}

// P15.2, case 2: a frame that was asked for is left when its node has a constructor, whatever stands beneath that; and when it is Firm.
func TestBackFromWhatIsAsked(t *testing.T) {
	m, h := begun(t, 40, "add(i(s(r)),z)")
	has(t, h, "z r s(1) i(2) add(3,0)")
	steps(t, m, "ask 4; contract 3 by 5 at 0")
	stands(t, m, "4:w0:* 3:0:0")
	looks(t, m, 2, "0")
	steps(t, m, "back 2")
	has(t, h, "z r s(1) >2 add(3,0)") // it is not marked, for nothing is known of what stands beneath
	steps(t, m, "contract 4 by 3 at *")

	m, h = begun(t, 40, "add(g(r,r,r,r,r,r),r)")
	steps(t, m, "ask 8; stiff 7")
	stands(t, m, "8:w0:* 7:0:0")
	steps(t, m, "back 7; stiff 8")
	has(t, h, "r r r r r r r g(6,5,4,3,2,1)! add(7,0)!")
	steps(t, m, "go 8; go 7; contract 6 by 1 at 0.0")
}

// P15.2, case 3: of a constructor, and of what is Firm, each argument is gone to, from the first on; then it is Settled.
func TestGo(t *testing.T) {
	m, h := begun(t, 40, "six(z,r,s(z),z,r,z)")
	has(t, h, "z r z z s(3) r z six(6,5,4,2,1,0)")
	steps(t, m, "go 7")
	stands(t, m, "7:w1:* 6:w0:0")
	steps(t, m, "back 6; go 7")
	stands(t, m, "7:w2:* 5:w0:1")
	steps(t, m, "contract 5 by 1 at 1; back 8; go 7; go 4; back 3; back 4; go 7; back 2; go 7")
	stands(t, m, "7:w5:* 1:w0:4")
	steps(t, m, "contract 1 by 1 at 4; back 9; go 7; back 0")
	stands(t, m, "7:w6:*")
	has(t, h, "z!! >9 z!! z!! s(3)!! >8 z!! six(6,5,4,2,1,0) z!! z!!")
	steps(t, m, "back 7; done")
	has(t, h, "z!! >9 z!! z!! s(3)!! >8 z!! six(6,5,4,2,1,0)!! z!! z!!")
}

// P15.2, case 3: what stands in several places is gone to again, and left at once.
func TestGoToShared(t *testing.T) {
	h := refilled(t, 20, app(r), app(s, 0), app(p, 1, 1), app(p, 2, 1))
	m := over(t, full(t), h)
	is(t, "Start", m.Start(3), api.OK)
	steps(t, m, "go 3; go 2; go 1; contract 0 by 1 at 0.0.0; back 4; back 1; go 2; back 1; back 2; go 3; back 1; back 3; done")
	has(t, h, ">4 s(0)!! p(1,1)!! p(2,1)!! z!!")
}

// P15.2, case 4: Stiff: it is marked Firm, and the frame stays; one without rules, one whose argument is a constructor that no rule has, one that hangs on a rigid node.
func TestStiff(t *testing.T) {
	for _, c := range []struct{ text, steps, nodes string }{
		{"g(z,z,z,z,z,z)", "stiff 6", "z z z z z z g(5,4,3,2,1,0)!"},
		{"add(p(z,z),r)", "stiff 4", "r z z p(2,1) add(3,0)!"},
		{"f(six(z,z,z,z,z,z),r,r)", "stiff 9", "r r z z z z z z six(7,6,5,4,3,2) f(8,1,0)!"},
		{"f(z,s(z),r)", "stiff 4", "r z s(1) z f(3,2,0)!"},
		{"f(s(z),r,p(z,z))", "stiff 6", "z z p(1,0) r z s(4) f(5,3,2)!"},
		{"f(p(r,z),r,r)", "stiff 5", "r r z r p(3,2) f(4,1,0)!"},
		{"add(add(p(z,z),r),r)", "ask 6; stiff 5; back 5; stiff 6", "r r z z p(3,2) add(4,1)! add(5,0)!"},
		{"f(z,g(z,z,z,z,z,z),r)", "ask 9; stiff 7; back 7; stiff 9", "r z z z z z z g(6,5,4,3,2,1)! z f(8,7,0)!"},
		{"f(p(r,g(z,z,z,z,z,z)),r,r)", "ask 11; stiff 8; back 8; stiff 11", "r r z z z z z z g(7,6,5,4,3,2)! r p(9,8) f(10,1,0)!"},
	} {
		m, h := begun(t, 40, c.text)
		steps(t, m, c.steps)
		has(t, h, c.nodes)
		if l := m.Frames(); len(l) != 1 || !l[0].Whole || l[0].Next != 0 {
			t.Errorf("%s: the frames are %s", c.text, shownFrames(l))
		}
	}
}

// P15.2, case 4: a symbol without rules and without arguments, and a defined symbol that no rule was ever added for.
func TestStiffWithoutRules(t *testing.T) {
	y, h := made(t, declared), refilled(t, 9, app(r), app(d, 0))
	m := over(t, y, h)
	is(t, "Start", m.Start(1), api.OK)
	steps(t, m, "stiff 1; go 1; stiff 0; back 0; back 1; done")
	has(t, h, "r!! d(0)!!")
}

// P15.2, case 4: Ask: what is demanded first is asked for first; the frame is not Whole, its path may be long.
func TestAsk(t *testing.T) {
	for _, c := range []struct{ text, steps, frames string }{
		{"add(r,r)", "ask 2", "2:w0:* 1:0:0"},
		{"add(add(r,z),z)", "ask 4; ask 3", "4:w0:* 3:0:0 2:0:0"},
		{"f(r,r,r)", "ask 3", "3:w0:* 2:0:0"},
		{"f(z,r,r)", "ask 3", "3:w0:* 1:0:1"},
		{"f(s(r),r,r)", "ask 4", "4:w0:* 0:0:2"},
		{"f(p(r,r),r,r)", "ask 5", "5:w0:* 2:0:0.1"},
		{"s(f(p(r,i(i(r))),r,r))", "go 8; ask 7; contract 4 by 5 at 0.0.1; contract 3 by 5 at 0.0.1; contract 2 by 1 at 0.0.1; back 9; stiff 7", "8:w1:* 7:w0:0"},
	} {
		m, _ := begun(t, 40, c.text)
		steps(t, m, c.steps)
		stands(t, m, c.frames)
	}
}

// P15.2: nodes that code looks at are taken for what they are: at the end of a path, and on the way.
func TestThroughIndirections(t *testing.T) {
	h := refilled(t, 20, app(r), ind(0), app(s, 1), ind(2), app(p, 0, 3), ind(4), app(f, 5, 3, 1), ind(6))
	m := over(t, full(t), h)
	is(t, "Start", m.Start(7), api.OK)
	steps(t, m, "contract 6 by 9 at *")
	has(t, h, "r >0 s(1) >2 p(0,3) >4 >10 >6 d(2) s(8) six(0,0,2,0,0,9)")
	h = refilled(t, 20, app(r), ind(0), ind(1), app(p, 2, 2), ind(3), app(f, 4, 2, 1))
	m = over(t, full(t), h)
	is(t, "Start", m.Start(5), api.OK)
	steps(t, m, "ask 5")
	stands(t, m, "5:w0:* 0:0:0.1")
	steps(t, m, "contract 0 by 1 at 0.1; back 6; stiff 5")
}

// P15.2: a right side that is a variable: nothing is made, and the redex points to the node that stands there: the application that it is.
func TestVariableAsRightSide(t *testing.T) {
	m, h := begun(t, 4, "k(s(z),r)")
	has(t, h, "r z s(1) k(2,0)")
	steps(t, m, "contract 3 by 4 at *") // there is no room, and none is needed: nothing is collected
	has(t, h, "r z s(1) >2")
	stands(t, m, "3:w0:*")
	looks(t, m, 2, "*")
	steps(t, m, "go 2; back 1; back 2; done")

	h = refilled(t, 20, app(z), ind(0), ind(1), app(i, 2), ind(3), app(i, 4))
	m = over(t, full(t), h)
	is(t, "Start", m.Start(5), api.OK)
	steps(t, m, "contract 5 by 5 at *")
	has(t, h, "z >0 >1 i(2) >3 >3")
	steps(t, m, "contract 3 by 5 at *")
	has(t, h, "z >0 >1 >0 >3 >3")
	steps(t, m, "back 0; done")
	rooted(t, m, 5)
	has(t, h, "z!! >0 >1 >0 >3 >3")
}

// P15.2: a right side's symbols are new nodes, made from the last of its list to the first; its variables are shared.
func TestBuilt(t *testing.T) {
	m, h := begun(t, 40, "f(p(r,s(loop)),d(z),i(r))")
	has(t, h, "r i(0) z d(2) loop s(4) r p(6,5) f(7,3,1)")
	steps(t, m, "contract 8 by 9 at *")
	has(t, h, "r i(0) z d(2) loop s(4) r p(6,5) >11 d(3) s(9) six(6,4,3,1,6,10)")

	y := made(t, declared, "d(X) -> six(s(X),X,r,p(z,X),X,d(d(z)))")
	h = refilled(t, 40, app(z), ind(0), app(d, 1))
	m = over(t, y, h)
	is(t, "Start", m.Start(2), api.OK)
	steps(t, m, "contract 2 by 0 at *")
	has(t, h, "z >0 >10 z d(3) d(4) z p(6,0) r s(0) six(9,0,8,7,0,5)")
}

// P15.2: what is contracted in one place is contracted in all.
func TestContractOfShared(t *testing.T) {
	h := refilled(t, 20, app(r), app(add, 0, 0), app(p, 1, 0), app(p, 2, 1))
	m := over(t, full(t), h)
	is(t, "Start", m.Start(3), api.OK)
	is(t, "Hold", m.Hold([]int{1}), api.OK)
	steps(t, m, "go 3; go 2; ask 1; contract 0 by 1 at 0.0.0; back 4; contract 1 by 2 at 0.0; back 4; go 2; back 4; back 2; go 3; back 4; back 3; done")
	has(t, h, ">4 >4 p(1,0)!! p(2,1)!! z!!")
}

// P15.2: a contraction leaves the redex without a mark, and the marks of the others as they are.
func TestMarksBehindContract(t *testing.T) {
	m, h := begun(t, 40, "p(s(z),d(g(z,z,z,z,z,z)))")
	steps(t, m, "go 10; go 9; back 8; back 9; go 10; contract 7 by 0 at 1; go 11; stiff 6")
	has(t, h, "z z z z z z g(5,4,3,2,1,0)! >11 z!! s(8)!! p(9,7) p(6,6)")
}

// P15.3: Run is so many Steps: by each number up to more than there are, ahead of each of them.
func TestRun(t *testing.T) {
	for _, text := range []string{"d(r)", "add(r,z)", "add(p(z,z),r)", "s(f(p(r,add(r,z)),z,r))", "p(loop,z)", "z", "d(d(d(i(r))))"} {
		for ahead := 0; ahead < 25; ahead += 4 {
			for n := -1; n < 25; n++ {
				one, h := begun(t, 60, text)
				other, j := begun(t, 60, text)
				var want api.Ran
				for range ahead {
					one.Step()
					other.Step()
				}
				for range n {
					x, err := other.Step()
					if err != nil {
						t.Fatal(err)
					}
					if x.Kind == api.Done {
						want.Done = true
						break
					}
					want.Steps++
					if x.Kind == api.Contract {
						want.Contracted++
					}
				}
				runs(t, one, n, want, "")
				if a, b := whole(one, h), whole(other, j); a != b {
					t.Fatalf("%s, %d behind %d: %s, not %s", text, n, ahead, a, b)
				}
			}
		}
	}
}

// P15.3: the numbers of the answer, and that the last Step that is done is none that finds Done out.
func TestRunNumbers(t *testing.T) {
	for n, want := range map[int]api.Ran{
		math.MinInt: {}, -1: {}, 0: {}, 1: {Steps: 1, Contracted: 1}, 2: {Steps: 2, Contracted: 1}, 3: {Steps: 3, Contracted: 2},
		6: {Steps: 6, Contracted: 2}, 7: {Steps: 7, Contracted: 2}, 8: {Steps: 7, Contracted: 2, Done: true}, 9: {Steps: 7, Contracted: 2, Done: true},
		2000: {Steps: 7, Contracted: 2, Done: true}, 2001: {Steps: 7, Contracted: 2, Done: true}, math.MaxInt: {Steps: 7, Contracted: 2, Done: true},
	} {
		m, _ := begun(t, 9, "d(r)")
		runs(t, m, n, want, "")
	}
	m, _ := begun(t, 9, "d(r)")
	runs(t, m, 7, api.Ran{Steps: 7, Contracted: 2}, "")
	runs(t, m, 0, api.Ran{}, "")
	runs(t, m, 1, api.Ran{Done: true}, "")
}

// P15.3: Run of more than MaxRun stops at MaxRun.
func TestRunTooLong(t *testing.T) {
	for _, n := range []int{1999, 2000, 2001, 4000, math.MaxInt} {
		m, _ := begun(t, 9, "p(loop,z)")
		want := min(n, 2000)
		runs(t, m, n, api.Ran{Steps: want, Contracted: want - 1}, "")
		if x, err := m.Step(); x.Kind != api.Contract || x.Rule != 6 || shownPath(x.Path) != "0" || err != nil {
			t.Errorf("Step: %s, %v", shownStep(x), err)
		}
	}
	// Steps that contract nothing count as others do.
	y, h := full(t), empty(t, 4000)
	a, _ := h.Make(z)
	for range 1500 {
		a, _ = h.Make(s, a)
	}
	m := over(t, y, h)
	is(t, "Start", m.Start(a), api.OK)
	runs(t, m, 5000, api.Ran{Steps: 2000}, "")
	if len(m.Frames()) != 1001 {
		t.Errorf("%d frames", len(m.Frames()))
	}
	runs(t, m, 5000, api.Ran{Steps: 1001, Done: true}, "")
}

// P15.3, R3: where a Step answers an error, Run answers that, and beside it what was done ahead of it, which stays.
func TestRunThatIsRefused(t *testing.T) {
	y, h := made(t, declared, "r -> z; d(X) -> s(s(s(X)))"), empty(t, 6)
	a := load(t, y, h, "p(r,d(z))")
	m := over(t, y, h)
	is(t, "Start", m.Start(a), api.OK)
	has(t, h, "z d(0) r p(2,1)")
	runs(t, m, 4, api.Ran{Steps: 4, Contracted: 1}, "")
	has(t, h, "z d(0) >4 p(2,1) z!!")
	runs(t, m, 0, api.Ran{}, "")
	has(t, h, "z d(0) >4 p(2,1) z!!")
	for range 3 {
		runs(t, m, 99, api.Ran{}, "151@3 111")
		has(t, h, "z d(0) p(3,1) z!!")
		rooted(t, m, 2)
		stands(t, m, "2:w2:* 1:w0:1")
	}
	is(t, "Start", m.Start(2), api.OK)
	runs(t, m, 99, api.Ran{Steps: 3}, "151@3 111")
	stands(t, m, "2:w2:* 1:w0:1")
	has(t, h, "z d(0) p(3,1) z!!")

	h = empty(t, 6)
	a = load(t, y, h, "p(r,d(z))")
	m = over(t, y, h)
	is(t, "Start", m.Start(a), api.OK)
	runs(t, m, 99, api.Ran{Steps: 4, Contracted: 1}, "151@3 111")
	stands(t, m, "2:w2:* 1:w0:1")
}
