package machine_test

import (
	"math"
	"slices"
	"strconv"
	"strings"
	"testing"

	"ropewalk/api"
	"ropewalk/graft"
	"ropewalk/heap"
	"ropewalk/machine"
	"ropewalk/notation"
	"ropewalk/system"
)

// The numbers of the symbols of declared: the first six as in the chapter, the others the tests' own; lacking is none of them.
const (
	z = iota
	s
	p
	d
	r
	add
	six
	k
	i
	loop
	f
	g
	lacking
)

const declared = "con z/0, s/1, p/2; fun d/1, r/0, add/2; con six/6; fun k/2, i/1, loop/0, f/3, g/6"

// The rules: 0 to 3 as in the chapter; 4, 5 and 7 have variables as right sides; 6 goes on for ever; f looks at several arguments, and beneath them; g has no rules.
const ruled = "d(X) -> p(X,X); r -> z; add(z,Y) -> Y; add(s(X),Y) -> s(add(X,Y)); k(X,Y) -> X; i(X) -> X; loop -> loop; " +
	"f(z,z,X) -> X; f(s(X),Y,z) -> f(X,Y,Y); f(p(X,s(Y)),Z,V) -> six(X,Y,Z,V,X,s(d(Z)))"

// made is a system of these symbols, with rules that come in one call a text.
func made(t testing.TB, symbols string, rules ...string) *system.System {
	t.Helper()
	y := system.New()
	declare(t, y, symbols)
	for _, text := range rules {
		rule(t, y, text)
	}
	return y
}

// full is the system of declared and ruled.
func full(t testing.TB) *system.System {
	t.Helper()
	return made(t, declared, ruled)
}

func declare(t testing.TB, y *system.System, text string) {
	t.Helper()
	l, err := notation.Symbols(text)
	if err != nil {
		t.Fatalf("%s: %v", text, err)
	}
	if err := y.AddSymbols(l); err != nil {
		t.Fatalf("%s: %v", text, err)
	}
}

func rule(t testing.TB, y *system.System, text string) {
	t.Helper()
	l, err := notation.Rules(y.Sig(), text)
	if err != nil {
		t.Fatalf("%s: %v", text, err)
	}
	if err := y.AddRules(l); err != nil {
		t.Fatalf("%s: %v", text, err)
	}
}

// read is a term that is written out.
func read(t testing.TB, y *system.System, text string) api.Term {
	t.Helper()
	x, err := notation.Term(y.Sig(), text)
	if err != nil {
		t.Fatalf("%s: %v", text, err)
	}
	return x
}

// load lays a term that is written out into a heap: where its root is.
func load(t testing.TB, y *system.System, h *heap.Heap, text string) int {
	t.Helper()
	a, err := graft.Load(y.Sig(), h, read(t, y, text))
	if err != nil {
		t.Fatalf("%s: %v", text, err)
	}
	return a
}

// empty is a heap without nodes.
func empty(t testing.TB, room int) *heap.Heap {
	t.Helper()
	h, e := heap.New(room)
	if h == nil || e != api.OK {
		t.Fatalf("New(%d): %v", room, e)
	}
	return h
}

// refilled is a heap that has these nodes.
func refilled(t testing.TB, room int, l ...api.Node) *heap.Heap {
	t.Helper()
	h := empty(t, room)
	if e := h.Refill(l); e != api.OK {
		t.Fatalf("Refill: %v", e)
	}
	return h
}

// over is a machine that was not started.
func over(t testing.TB, y *system.System, h *heap.Heap) *machine.Machine {
	t.Helper()
	m, e := machine.New(y, h)
	if m == nil || e != api.OK {
		t.Fatalf("New: %v", e)
	}
	return m
}

// begun is a machine that was started on a term that is written out.
func begun(t testing.TB, room int, text string) (*machine.Machine, *heap.Heap) {
	t.Helper()
	y, h := full(t), empty(t, room)
	a := load(t, y, h, text)
	m := over(t, y, h)
	is(t, "Start", m.Start(a), api.OK)
	return m, h
}

// app is an application.
func app(symbol int, args ...int) api.Node { return api.Node{Symbol: symbol, Args: args} }

// marked is an application with a mark.
func marked(mark, symbol int, args ...int) api.Node {
	return api.Node{Symbol: symbol, Args: args, Mark: mark}
}

// ind is an indirection.
func ind(to int) api.Node { return api.Node{Points: true, To: to} }

func is(t testing.TB, what string, got, want api.Errno) {
	t.Helper()
	if got != want {
		t.Errorf("%s: %v, not %v", what, got, want)
	}
}

// outside are numbers that are no addresses, where there are so many nodes.
func outside(count int) []int {
	return []int{-1, -2, -4000, math.MinInt, count, count + 1, 4000, 4001, math.MaxInt}
}

func numbers(l []int) string {
	var words []string
	for _, n := range l {
		words = append(words, strconv.Itoa(n))
	}
	return strings.Join(words, ",")
}

var known, _ = notation.Symbols(declared)

// nameOf is a symbol's name, by declared; its number, if it is none of these.
func nameOf(symbol int) string {
	if symbol < 0 || symbol >= len(known) {
		return strconv.Itoa(symbol)
	}
	return known[symbol].Name
}

// shown is a node as a text: `add(0,1)`, with `!` behind it, if it is Firm, `!!`, if it is Settled; an indirection as `>2`.
func shown(x api.Node) string {
	if x.Points {
		return ">" + strconv.Itoa(x.To)
	}
	text := nameOf(x.Symbol)
	if len(x.Args) > 0 {
		text += "(" + numbers(x.Args) + ")"
	}
	return text + strings.Repeat("!", x.Mark)
}

func shownNodes(l []api.Node) string {
	var words []string
	for _, x := range l {
		words = append(words, shown(x))
	}
	return strings.Join(words, " ")
}

// shownTerm is a term as a text: its symbols' names.
func shownTerm(l api.Term) string {
	var words []string
	for _, n := range l {
		words = append(words, nameOf(n))
	}
	return strings.Join(words, " ")
}

// nodesOf are a heap's nodes, by addresses.
func nodesOf(h *heap.Heap) []api.Node {
	var l []api.Node
	for _, x := range h.All() {
		l = append(l, x)
	}
	return l
}

// has asks whether a heap has just these nodes.
func has(t testing.TB, h *heap.Heap, want string) {
	t.Helper()
	if got := shownNodes(nodesOf(h)); got != want {
		t.Errorf("the nodes are %s, not %s", got, want)
	}
}

// shownPath is a path as it is written.
func shownPath(l []int) string { return notation.PrintPath(l) }

// shownStep is a step as a text: `go 2`, `contract 0 by 1 at 0.1`. What should be a zero value and is none is told behind it.
func shownStep(x api.Step) string {
	word := strconv.Itoa(x.Kind)
	if words := []string{"nothing", "contract", "ask", "stiff", "go", "back", "done"}; x.Kind >= 0 && x.Kind < len(words) {
		word = words[x.Kind]
	}
	if x.Kind != api.Done && x.Kind != 0 || x.Node != 0 {
		word += " " + strconv.Itoa(x.Node)
	}
	if x.Kind == api.Contract || x.Rule != 0 || len(x.Path) > 0 {
		word += " by " + strconv.Itoa(x.Rule) + " at " + shownPath(x.Path)
	}
	return word
}

// shownFrame is a frame as a text: its Node, `w`, if it is Whole, its Next, its Path.
func shownFrame(x api.Frame) string {
	text := strconv.Itoa(x.Node) + ":"
	if x.Whole {
		text += "w"
	}
	return text + strconv.Itoa(x.Next) + ":" + shownPath(x.Path)
}

func shownFrames(l []api.Frame) string {
	var words []string
	for _, x := range l {
		words = append(words, shownFrame(x))
	}
	return strings.Join(words, " ")
}

// stands asks for a machine's frames.
func stands(t testing.TB, m *machine.Machine, want string) {
	t.Helper()
	if got := shownFrames(m.Frames()); got != want {
		t.Errorf("the frames are %s, not %s", got, want)
	}
}

// rooted asks for a machine's root.
func rooted(t testing.TB, m *machine.Machine, want int) {
	t.Helper()
	if got, e := m.Root(); got != want || e != api.OK {
		t.Errorf("Root: %d, %v, not %d", got, e, want)
	}
}

// looks asks for what a machine looks at next, and for the path to it.
func looks(t testing.TB, m *machine.Machine, want int, path string) {
	t.Helper()
	if got, way, e := m.Focus(); got != want || shownPath(way) != path || e != api.OK {
		t.Errorf("Focus: %d, %s, %v, not %d, %s", got, shownPath(way), e, want, path)
	}
}

// noFocus asks a machine that was not started, or that has no frame left, for its focus.
func noFocus(t testing.TB, m *machine.Machine) {
	t.Helper()
	if a, path, e := m.Focus(); a != 0 || len(path) != 0 || e != api.ErrMachineIdle {
		t.Errorf("Focus: %d, %v, %v", a, path, e)
	}
}

// isIdle asks whether a machine is one that was not started.
func isIdle(t testing.TB, m *machine.Machine) {
	t.Helper()
	if a, e := m.Root(); a != 0 || e != api.ErrMachineIdle {
		t.Errorf("Root: %d, %v", a, e)
	}
	noFocus(t, m)
	stands(t, m, "")
	if x, err := m.Step(); shownStep(x) != "nothing" || told(t, err) != "150@0" {
		t.Errorf("Step: %s, %s", shownStep(x), told(t, err))
	}
	for _, n := range []int{0, 1, -1, 2000, 2001, math.MinInt, math.MaxInt} {
		if x, err := m.Run(n); x != (api.Ran{}) || told(t, err) != "150@0" {
			t.Errorf("Run: %v, %s", x, told(t, err))
		}
	}
}

// holding asks which nodes a machine holds.
func holding(t testing.TB, m *machine.Machine, want ...int) {
	t.Helper()
	if got := m.Held(); !slices.Equal(got, want) {
		t.Errorf("Held: %v, not %v", got, want)
	}
}

// collects asks for a collection, by which so many nodes go.
func collects(t testing.TB, m *machine.Machine, want int) {
	t.Helper()
	if got := m.Collect(); got != want {
		t.Errorf("Collect: %d, not %d", got, want)
	}
}

// steps asks for these steps, one by one; they are written out as shownStep does, with `; ` between.
func steps(t testing.TB, m *machine.Machine, want string) {
	t.Helper()
	for n, word := range strings.Split(want, "; ") {
		if x, err := m.Step(); shownStep(x) != word || err != nil {
			t.Fatalf("the step %d is %s, %v, not %s", n, shownStep(x), err, word)
		}
	}
}

// noStep asks for a step that must be refused so.
func noStep(t testing.TB, m *machine.Machine, want string) {
	t.Helper()
	if x, err := m.Step(); shownStep(x) != "nothing" || told(t, err) != want {
		t.Errorf("Step: %s, %s, not %s", shownStep(x), told(t, err), want)
	}
}

// runs asks for a run.
func runs(t testing.TB, m *machine.Machine, n int, want api.Ran, wantErr string) {
	t.Helper()
	if got, err := m.Run(n); got != want || told(t, err) != wantErr {
		t.Errorf("Run(%d): %v, %s, not %v, %s", n, got, told(t, err), want, wantErr)
	}
}

// whole is all that a machine and its heap tell.
func whole(m *machine.Machine, h *heap.Heap) string {
	root, rootE := m.Root()
	focus, path, focusE := m.Focus()
	return shownNodes(nodesOf(h)) + "; root " + strconv.Itoa(root) + " " + strconv.Itoa(int(rootE)) +
		"; focus " + strconv.Itoa(focus) + " " + shownPath(path) + " " + strconv.Itoa(int(focusE)) +
		"; frames " + shownFrames(m.Frames()) + "; held " + numbers(m.Held())
}

// told is an error as the desk tells it: of each Fault its number, @ and its At, of an Errno at the end its number; an empty text of nil. What may not be is fatal.
func told(t testing.TB, err error) string {
	t.Helper()
	var words []string
	for depth := 0; err != nil; depth++ {
		if n, ok := err.(api.Errno); ok && depth > 0 {
			return strings.Join(append(words, strconv.Itoa(int(n))), " ")
		}
		x, ok := err.(*api.Fault)
		if !ok || x == nil {
			t.Fatalf("%v is neither a Fault nor, behind one, an Errno", err)
		}
		words = append(words, strconv.Itoa(int(x.Code))+"@"+strconv.Itoa(x.At))
		err = x.Why
	}
	return strings.Join(words, " ")
}

// model is a machine that goes by the document's words: by case trees and rules, not by code; its nodes and its frames are lists.
type model struct {
	system  *system.System
	version int
	room    int
	nodes   []api.Node
	started bool
	root    int
	frames  []api.Frame
	held    []int
}

// modelOf is a machine that was not started.
func modelOf(y *system.System, h *heap.Heap) *model {
	m := &model{system: y, version: y.Version(), room: h.Room(), nodes: nodesOf(h)}
	m.clear()
	return m
}

func (m *model) clear() {
	for a := range m.nodes {
		m.nodes[a].Mark = 0
	}
}

// catchUp comes ahead of whatever a call does.
func (m *model) catchUp() {
	if m.system.Version() == m.version {
		return
	}
	m.version = m.system.Version()
	m.clear()
	if m.started {
		m.frames = []api.Frame{{Node: m.root, Whole: true}}
	}
}

// is is the address of the application that a node is.
func (m *model) is(a int) int {
	if m.nodes[a].Points {
		return m.is(m.nodes[a].To)
	}
	return a
}

// leads is the application to which a path leads.
func (m *model) leads(a int, path []int) int {
	a = m.is(a)
	for _, n := range path {
		a = m.is(m.nodes[a].Args[n])
	}
	return a
}

func (m *model) hasNode(a int) bool { return a >= 0 && a <= len(m.nodes)-1 }

// live are the applications that these nodes are, or that stand beneath them: rising.
func (m *model) live(roots []int) []int {
	met := make([]bool, len(m.nodes))
	var visit func(a int)
	visit = func(a int) {
		if a = m.is(a); !met[a] {
			met[a] = true
			for _, b := range m.nodes[a].Args {
				visit(b)
			}
		}
	}
	for _, a := range roots {
		visit(a)
	}
	var l []int
	for a := range met {
		if met[a] {
			l = append(l, a)
		}
	}
	return l
}

// roots are all addresses by which the machine has nodes: the root, the frames', those that are held.
func (m *model) roots() []*int {
	var l []*int
	if m.started {
		l = append(l, &m.root)
	}
	for n := range m.frames {
		l = append(l, &m.frames[n].Node)
	}
	for n := range m.held {
		l = append(l, &m.held[n])
	}
	return l
}

func (m *model) rootList() []int {
	var l []int
	for _, x := range m.roots() {
		l = append(l, *x)
	}
	return l
}

func (m *model) collect() int {
	live := m.live(m.rootList())
	var nodes []api.Node
	for _, a := range live {
		x := marked(m.nodes[a].Mark, m.nodes[a].Symbol)
		for _, b := range m.nodes[a].Args {
			x.Args = append(x.Args, slices.Index(live, m.is(b)))
		}
		nodes = append(nodes, x)
	}
	for _, x := range m.roots() {
		*x = slices.Index(live, m.is(*x))
	}
	went := len(m.nodes) - len(nodes)
	m.nodes = nodes
	return went
}

func (m *model) start(a int) api.Errno {
	if !m.hasNode(a) {
		return api.ErrMachineNode
	}
	for _, b := range m.live([]int{a}) {
		x, e := m.system.Sig().At(m.nodes[b].Symbol)
		if e != api.OK || x.Arity != len(m.nodes[b].Args) {
			return api.ErrMachineNode
		}
	}
	m.started, m.root, m.frames = true, a, []api.Frame{{Node: a, Whole: true}}
	return api.OK
}

func (m *model) hold(l []int) api.Errno {
	for _, a := range l {
		if !m.hasNode(a) {
			return api.ErrMachineNode
		}
	}
	m.held = slices.Clone(l)
	return api.OK
}

// path is the spine's.
func (m *model) path() []int {
	var l []int
	for _, x := range m.frames {
		l = append(l, x.Path...)
	}
	return l
}

func (m *model) isDefined(a int) bool {
	x, _ := m.system.Sig().At(m.nodes[a].Symbol)
	return x.Defined
}

// walk goes through a case tree at an application.
func (m *model) walk(c api.Case, a int) api.Found {
	switch c.Kind {
	case api.Leaf:
		return api.Found{Kind: api.Fits, Rule: c.Rule}
	case api.Fail:
		return api.Found{Kind: api.Rigid}
	}
	x := m.leads(a, c.Path)
	if m.isDefined(x) {
		if m.nodes[x].Mark != 0 {
			return api.Found{Kind: api.Rigid}
		}
		return api.Found{Kind: api.Demand, Path: slices.Clone(c.Path), Node: x}
	}
	for _, kid := range c.Kids {
		if kid.Symbol == m.nodes[x].Symbol {
			return m.walk(kid.Case, a)
		}
	}
	return api.Found{Kind: api.Rigid}
}

// step does a step, and tells of its error.
func (m *model) step() (api.Step, string) {
	if !m.started {
		return api.Step{}, "150@0"
	}
	if len(m.frames) == 0 {
		return api.Step{Kind: api.Done}, ""
	}
	x := &m.frames[len(m.frames)-1]
	x.Node = m.is(x.Node)
	a := x.Node
	node := &m.nodes[a]
	switch isRigid := !m.isDefined(a) || node.Mark == 1; {
	case node.Mark == 2 || !x.Whole && isRigid:
		m.frames = m.frames[:len(m.frames)-1]
		return api.Step{Kind: api.Back, Node: a}, ""
	case isRigid && x.Next < len(node.Args):
		n := x.Next
		x.Next = n + 1
		m.frames = append(m.frames, api.Frame{Node: node.Args[n], Whole: true, Path: []int{n}})
		return api.Step{Kind: api.Go, Node: a}, ""
	case isRigid:
		node.Mark = 2
		m.frames = m.frames[:len(m.frames)-1]
		return api.Step{Kind: api.Back, Node: a}, ""
	}
	c, _ := m.system.Tree(node.Symbol)
	switch found := m.walk(c, a); found.Kind {
	case api.Rigid:
		node.Mark = 1
		return api.Step{Kind: api.Stiff, Node: a}, ""
	case api.Demand:
		m.frames = append(m.frames, api.Frame{Node: found.Node, Path: found.Path})
		return api.Step{Kind: api.Ask, Node: a}, ""
	default:
		return m.contract(found.Rule)
	}
}

func (m *model) contract(n int) (api.Step, string) {
	rule, _ := m.system.Rules().At(n)
	count := 0
	for _, x := range rule.Right {
		if x >= 0 {
			count++
		}
	}
	if m.room-len(m.nodes) < count {
		m.collect()
	}
	if m.room-len(m.nodes) < count {
		return api.Step{}, "151@" + strconv.Itoa(count) + " 111"
	}
	a := m.frames[len(m.frames)-1].Node
	to := m.build(rule.Right, m.bind(rule.Left, a))
	m.nodes[a] = ind(to)
	return api.Step{Kind: api.Contract, Node: a, Rule: n, Path: m.path()}, ""
}

// bind is by variables which applications stand there, where a left side fits.
func (m *model) bind(left api.Term, a int) map[int]int {
	binds, at := map[int]int{}, 0
	var take func(a int)
	take = func(a int) {
		n := left[at]
		at++
		if n < 0 {
			binds[n] = m.is(a)
			return
		}
		for _, b := range m.nodes[m.is(a)].Args {
			take(b)
		}
	}
	take(a)
	return binds
}

// build lays a right side: where its first is.
func (m *model) build(right api.Term, binds map[int]int) int {
	where, ends := make([]int, len(right)), make([]int, len(right)+1)
	for at := len(right) - 1; at >= 0; at-- {
		n := right[at]
		ends[at] = at + 1
		if n < 0 {
			where[at] = binds[n]
			continue
		}
		x, _ := m.system.Sig().At(n)
		node := app(n)
		for range x.Arity {
			node.Args = append(node.Args, where[ends[at]])
			ends[at] = ends[ends[at]]
		}
		where[at] = len(m.nodes)
		m.nodes = append(m.nodes, node)
	}
	return where[0]
}

// run does steps as Run says.
func (m *model) run(n int) (api.Ran, string) {
	var ran api.Ran
	if !m.started {
		return ran, "150@0"
	}
	for ran.Steps < n && ran.Steps < 2000 {
		x, word := m.step()
		if word != "" {
			return ran, word
		}
		if x.Kind == api.Done {
			ran.Done = true
			break
		}
		ran.Steps++
		if x.Kind == api.Contract {
			ran.Contracted++
		}
	}
	return ran, ""
}

// whole is all that the machine and its heap must tell.
func (m *model) whole() string {
	rootE, focusE, root, focus := api.OK, api.OK, m.root, 0
	var path []int
	if !m.started {
		rootE, focusE = api.ErrMachineIdle, api.ErrMachineIdle
	} else if len(m.frames) == 0 {
		focusE = api.ErrMachineIdle
	} else {
		focus, path = m.is(m.frames[len(m.frames)-1].Node), m.path()
	}
	return shownNodes(m.nodes) + "; root " + strconv.Itoa(root) + " " + strconv.Itoa(int(rootE)) +
		"; focus " + strconv.Itoa(focus) + " " + shownPath(path) + " " + strconv.Itoa(int(focusE)) +
		"; frames " + shownFrames(m.frames) + "; held " + numbers(m.held)
}
