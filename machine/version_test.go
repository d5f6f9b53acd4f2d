package machine_test

import (
	"testing"

	"ropewalk/api"
	"ropewalk/heap"
	"ropewalk/machine"
	"ropewalk/system"
)

// firsts are the calls of a machine, refused ones too: each of them may be the first behind rules that came.
func firsts() map[string]func(m *machine.Machine) {
	return map[string]func(m *machine.Machine){
		"Hold":             func(m *machine.Machine) { m.Hold([]int{0}) },
		"Hold of none":     func(m *machine.Machine) { m.Hold(nil) },
		"Hold, refused":    func(m *machine.Machine) { m.Hold([]int{99}) },
		"Start, refused":   func(m *machine.Machine) { m.Start(99) },
		"Start below 0":    func(m *machine.Machine) { m.Start(-1) },
		"Run of 0":         func(m *machine.Machine) { m.Run(0) },
		"Run of less":      func(m *machine.Machine) { m.Run(-5) },
		"Held":             func(m *machine.Machine) { m.Held() },
		"Root":             func(m *machine.Machine) { m.Root() },
		"Focus":            func(m *machine.Machine) { m.Focus() },
		"Frames":           func(m *machine.Machine) { m.Frames() },
		"Collect of a few": func(m *machine.Machine) { m.Collect() },
	}
}

// bare is a machine in the midst of a run, with marks and frames, over rules of add alone.
func bare(t *testing.T) (*machine.Machine, *heap.Heap, *system.System) {
	t.Helper()
	y, h := made(t, declared, "add(z,Y) -> Y"), empty(t, 20)
	a := load(t, y, h, "p(s(r),add(d(z),z))")
	m := over(t, y, h)
	is(t, "Start", m.Start(a), api.OK)
	steps(t, m, "go 6; go 5; stiff 4; back 4; back 5; go 6; ask 3; stiff 2")
	has(t, h, "z z d(1)! add(2,0) r!! s(4)!! p(5,3)")
	stands(t, m, "6:w2:* 3:w0:1 2:0:0")
	return m, h, y
}

// DOC.md, 'The machine': where rules have come, all marks are taken away and the spine is a new one at the root, ahead of whatever a call does.
func TestRulesComeAheadOfEachCall(t *testing.T) {
	for name, call := range firsts() {
		m, h, y := bare(t)
		rule(t, y, "r -> z; d(X) -> X")
		has(t, h, "z z d(1)! add(2,0) r!! s(4)!! p(5,3)") // nobody has looked yet
		call(m)
		if got := shownNodes(nodesOf(h)); got != "z z d(1) add(2,0) r s(4) p(5,3)" {
			t.Errorf("%s: the nodes are %s", name, got)
		}
		rooted(t, m, 6)
		stands(t, m, "6:w0:*")
		looks(t, m, 6, "*")
		steps(t, m, "go 6; go 5; contract 4 by 1 at 0.0; back 7; back 5; go 6; ask 3; contract 2 by 2 at 1.0; back 1; contract 3 by 0 at 1; back 0; back 6; done")
	}
}

// DOC.md, 'The machine': likewise of Step, Run and Start, which then do what they do.
func TestRulesComeAheadOfSteps(t *testing.T) {
	m, h, y := bare(t)
	rule(t, y, "r -> z; d(X) -> X")
	steps(t, m, "go 6")
	stands(t, m, "6:w1:* 5:w0:0")
	has(t, h, "z z d(1) add(2,0) r s(4) p(5,3)")

	m, h, y = bare(t)
	rule(t, y, "r -> z; d(X) -> X")
	runs(t, m, 3, api.Ran{Steps: 3, Contracted: 1}, "")
	stands(t, m, "6:w1:* 5:w1:0 4:w0:0")
	has(t, h, "z z d(1) add(2,0) >7 s(4) p(5,3) z")

	m, h, y = bare(t)
	rule(t, y, "r -> z; d(X) -> X")
	is(t, "Start", m.Start(3), api.OK)
	has(t, h, "z z d(1) add(2,0) r s(4) p(5,3)")
	rooted(t, m, 3)
	stands(t, m, "3:w0:*")
	steps(t, m, "ask 3; contract 2 by 2 at 0")
}

// DOC.md, 'The machine': Collect keeps for the new spine: the frames of the old one keep nothing.
func TestRulesComeAheadOfCollect(t *testing.T) {
	h := refilled(t, 9, app(r), app(d, 0), app(i, 1))
	y := made(t, declared, "d(X) -> z")
	m := over(t, y, h)
	is(t, "Start", m.Start(1), api.OK)
	is(t, "Hold", m.Hold([]int{2}), api.OK)
	steps(t, m, "contract 1 by 0 at *")
	has(t, h, "r >3 i(1) z")
	rule(t, y, "i(X) -> X")
	collects(t, m, 2)
	has(t, h, "i(1) z")
	rooted(t, m, 1)
	holding(t, m, 0)
	stands(t, m, "1:w0:*")
}

// DOC.md, 'The machine': a machine that is done begins anew; one that was not started is not, but its marks go.
func TestRulesComeBehindDone(t *testing.T) {
	y, h := made(t, declared), empty(t, 9)
	a := load(t, y, h, "s(r)")
	m := over(t, y, h)
	is(t, "Start", m.Start(a), api.OK)
	steps(t, m, "go 1; stiff 0; back 0; back 1; done")
	has(t, h, "r!! s(0)!!")
	rule(t, y, "r -> z")
	steps(t, m, "go 1; contract 0 by 0 at 0; back 2; back 1; done; done")
	rule(t, y, "i(X) -> X")
	stands(t, m, "1:w0:*")
	looks(t, m, 1, "*")
	steps(t, m, "go 1; back 2; back 1; done")

	for name, call := range firsts() {
		y, h := made(t, declared), refilled(t, 9, app(r))
		m := over(t, y, h)
		is(t, "Hold", m.Hold([]int{0}), api.OK)
		h.Mark(0, api.Settled) // as a machine's own mark would be
		rule(t, y, "r -> z")
		call(m)
		for _, x := range nodesOf(h) {
			if x.Mark != api.Fresh {
				t.Errorf("%s: a mark is left", name)
			}
		}
		isIdle(t, m)
	}
}

// DOC.md, 'The machine': the spine is a new one at the root, as the root was named last: an indirection, or where a collection put it.
func TestRulesComeWhereRootMoved(t *testing.T) {
	y, h := made(t, declared, "i(X) -> X"), empty(t, 9)
	load(t, y, h, "k(i(z),r)")
	load(t, y, h, "i(i(s(r)))")
	m := over(t, y, h)
	is(t, "Start", m.Start(7), api.OK)
	steps(t, m, "contract 7 by 0 at *; contract 6 by 0 at *; go 5")
	has(t, h, "r z i(1) k(2,0) r s(4) >5 >6")
	rooted(t, m, 7)
	rule(t, y, "k(X,Y) -> X")
	rooted(t, m, 7)
	stands(t, m, "7:w0:*")
	steps(t, m, "go 5")
	stands(t, m, "5:w1:* 4:w0:0")
	collects(t, m, 6)
	has(t, h, "r s(0)")
	rooted(t, m, 1)
	rule(t, y, "r -> z")
	stands(t, m, "1:w0:*")
	steps(t, m, "go 1; contract 0 by 2 at 0; back 2; back 1; done")
}

// DOC.md, 'The machine': rules that are refused, and none, leave the Version what it was: the machine goes on.
func TestRulesThatDoNotCome(t *testing.T) {
	m, h, y := bare(t)
	if y.AddRules(nil) != nil || y.AddRules([]api.Rule{{Left: api.Term{add, -1, -1}, Right: api.Term{z}}}) == nil {
		t.Fatal("AddRules")
	}
	stands(t, m, "6:w2:* 3:w0:1 2:0:0")
	has(t, h, "z z d(1)! add(2,0) r!! s(4)!! p(5,3)")
	steps(t, m, "back 2; stiff 3; go 3; go 2; back 1; back 2; go 3; back 0; back 3; back 6; done")
}

// DOC.md, 'The machine': rules that come twice, with a call between and without.
func TestRulesComeTwice(t *testing.T) {
	m, h, y := bare(t)
	rule(t, y, "r -> d(z)")
	rule(t, y, "d(X) -> X")
	runs(t, m, 4, api.Ran{Steps: 4, Contracted: 2}, "")
	rule(t, y, "k(X,Y) -> X")
	runs(t, m, 99, api.Ran{Steps: 11, Contracted: 2, Done: true}, "")
	a, _ := m.Root()
	if x := termOf(nodesOf(h), a); shownTerm(x) != "p s z z" {
		t.Errorf("the term is %s", shownTerm(x))
	}
}

// P15.1, P15.2: symbols that come leave marks and spine as they are; what has them can be started then, and is worked out by the system as it is.
func TestSymbolsCome(t *testing.T) {
	m, h, y := bare(t)
	declare(t, y, "con c/1; fun e/1")
	stands(t, m, "6:w2:* 3:w0:1 2:0:0")
	has(t, h, "z z d(1)! add(2,0) r!! s(4)!! p(5,3)")
	steps(t, m, "back 2; stiff 3")
	a := load(t, y, h, "p(c(z),e(add(z,c(e(z)))))")
	has(t, h, "z z d(1)! add(2,0)! r!! s(4)!! p(5,3) z 13(7) 12(8) z add(10,9) 13(11) z 12(13) p(14,12)")
	steps(t, m, "go 3")
	is(t, "Start", m.Start(a), api.OK)
	steps(t, m, "go 15; go 14; back 13; back 14; go 15; stiff 12; go 12; contract 11 by 0 at 1.0; go 9; stiff 8; go 8; back 7; back 8; back 9; back 12; back 15; done")
	rule(t, y, "e(c(X)) -> X")
	steps(t, m, "go 15; go 14; back 13; back 14; go 15; contract 12 by 1 at 1")
	runs(t, m, 99, api.Ran{Steps: 5, Done: true}, "")
	root, _ := m.Root()
	if x := termOf(nodesOf(h), root); shownTerm(x) != "p 12 z 13 z" {
		t.Errorf("the term is %s", shownTerm(x))
	}
}

// P15.2: symbols that came, and then rules that have them on their right sides: what is built is worked out.
func TestSymbolsAndRulesCome(t *testing.T) {
	m, h, y := bare(t)
	declare(t, y, "con c/1; fun e/1")
	rule(t, y, "r -> e(c(z)); d(X) -> e(X)")
	rule(t, y, "e(c(X)) -> s(e(X))")
	steps(t, m, "go 6; go 5; contract 4 by 1 at 0.0; contract 9 by 3 at 0.0; go 11; stiff 10; go 10; back 7; back 10; back 11; back 5; go 6; ask 3; contract 2 by 2 at 1.0; stiff 12; back 12; stiff 3")
	has(t, h, "z z >12 add(2,0)! >9 s(4)!! p(5,3) z!! 12(7) >11 13(7)!! s(10)!! 13(1)!")
}

// P15.1: a machine over a system that has rules already looks at those.
func TestRulesAheadOfNew(t *testing.T) {
	y, h := full(t), refilled(t, 9, app(r))
	rule(t, y, "g(z,X,Y,Z,V,W) -> X")
	m := over(t, y, h)
	is(t, "Start", m.Start(0), api.OK)
	h.Mark(0, api.Settled) // it would be taken away, if the machine took the system for another one
	steps(t, m, "back 0; done")
}
