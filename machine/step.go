package machine

import (
	"errors"

	"ropewalk/api"
	"ropewalk/code"
	"ropewalk/graft"
)

// Step does one step.
func (m *Machine) Step() (api.Step, error) {
	if e := m.begun(); e != api.OK {
		return api.Step{}, &api.Fault{Code: e}
	}
	return m.step()
}

// Run does steps, up to so many, or till nothing is left to do.
func (m *Machine) Run(n int) (api.Ran, error) {
	if e := m.begun(); e != api.OK {
		return api.Ran{}, &api.Fault{Code: e}
	}
	var ran api.Ran
	for most := min(n, api.MaxRun); ran.Steps < most && !ran.Done; {
		s, err := m.step()
		if err != nil {
			return ran, err
		}
		count(&ran, s.Kind)
	}
	return ran, nil
}

// count puts a step to those that there were.
func count(ran *api.Ran, kind int) {
	switch kind {
	case api.Done:
		ran.Done = true
	case api.Contract:
		ran.Contracted++
		fallthrough
	default:
		ran.Steps++
	}
}

// step does one of the cases of the document's section 'The machine'; the numbers are its.
func (m *Machine) step() (api.Step, error) {
	x, e := m.look()
	if e != api.OK {
		return api.Step{}, refused(e)
	}
	switch {
	case x.isNothing(): // 1
		return api.Step{Kind: api.Done}, nil
	case x.isThrough(): // the end of 3
		m.heap.Mark(x.at, api.Settled)
		fallthrough // what is Settled from now on is left as what was so before
	case x.isEnough(): // 2
		m.spine.Pop()
		return api.Step{Kind: api.Back, Node: x.at}, nil
	case x.isRigid: // 3
		m.descend(x)
		return api.Step{Kind: api.Go, Node: x.at}, nil
	default: // 4
		return m.work(x)
	}
}

// sight is what the machine looks at: its top frame, and the application that this frame's node is.
type sight struct {
	frames  int // with that one: 0, if there is none
	frame   api.Frame
	at      int
	node    api.Node
	isRigid bool // so far as it is known: a constructor is, and what is marked so
}

func (x sight) isNothing() bool { return x.frames == 0 }

// isThrough tells whether all arguments were gone to, of what is wanted whole.
func (x sight) isThrough() bool {
	return x.isRigid && x.frame.Whole && x.frame.Next >= len(x.node.Args)
}

// isEnough tells whether all is known that the frame wants.
func (x sight) isEnough() bool {
	return x.node.Mark == api.Settled || x.isRigid && !x.frame.Whole
}

// look is what there is to be looked at. The top frame names the application from then on.
func (m *Machine) look() (sight, api.Errno) {
	f, e := m.spine.Top()
	if e != api.OK { // no frame is left: that is no error, but a step of its own
		return sight{}, api.OK
	}
	if f.Node, e = m.heap.Resolve(f.Node); e != api.OK {
		return sight{}, e
	}
	m.spine.Turn(f)
	x, e := m.heap.At(f.Node)
	isRigid := x.Mark != api.Fresh || m.isConstructor(x.Symbol)
	return sight{m.spine.Len(), f, f.Node, x, isRigid}, e
}

func (m *Machine) isConstructor(symbol int) bool {
	return symbol < len(m.code.Entry) && m.code.Entry[symbol] < 0
}

// descend goes on to the next argument of what is looked at.
func (m *Machine) descend(x sight) {
	n := x.frame.Next
	x.frame.Next++
	m.spine.Turn(x.frame)
	m.spine.Push(api.Frame{Node: x.node.Args[n], Whole: true, Path: []int{n}})
}

// work finds out whether what is looked at is a redex, or rigid, or hangs on another node.
func (m *Machine) work(x sight) (api.Step, error) {
	found, e := code.Run(m.code, x.node.Symbol, graft.Of(m.heap), x.at)
	if e != api.OK {
		return api.Step{}, refused(e)
	}
	switch found.Kind {
	case api.Fits:
		return m.contract(found.Rule)
	case api.Rigid:
		m.heap.Mark(x.at, api.Firm)
		return api.Step{Kind: api.Stiff, Node: x.at}, nil
	default:
		m.spine.Push(api.Frame{Node: found.Node, Path: found.Path})
		return api.Step{Kind: api.Ask, Node: x.at}, nil
	}
}

// contract contracts the top frame's node, by a rule that fits there.
func (m *Machine) contract(rule int) (api.Step, error) {
	redex, to, err := m.build(rule)
	if errors.Is(err, api.ErrHeapFull) {
		m.collect()
		redex, to, err = m.build(rule)
	}
	if err != nil {
		return api.Step{}, m.noContract(rule, err)
	}
	if e := m.heap.Point(redex, to); e != api.OK {
		return api.Step{}, refused(e)
	}
	return api.Step{Kind: api.Contract, Node: redex, Rule: rule, Path: m.spine.Path()}, nil
}

// build lays the right side of a rule for the top frame's node: where that node is, and what was built.
func (m *Machine) build(rule int) (int, int, error) {
	f, _ := m.spine.Top()
	to, err := graft.Build(m.system.Sig(), m.code, m.heap, rule, f.Node)
	return f.Node, to, err
}

// noContract is why the right side of a rule was not built: graft's Fault is told as the machine's own, which comes of what the heap refused.
func (m *Machine) noContract(rule int, err error) error {
	var why api.Errno
	if !errors.As(err, &why) || why != api.ErrHeapFull {
		return refused(err)
	}
	symbols, _ := code.Weight(m.code, rule)
	return &api.Fault{Code: api.ErrMachineFull, At: symbols, Why: why}
}

// refused is the Fault of a step that comes to a node which is not there, or not as Start found it: only where somebody else changed the heap.
func refused(why error) error { return &api.Fault{Code: api.ErrMachineNode, Why: why} }
