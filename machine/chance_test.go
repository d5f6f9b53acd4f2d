package machine_test

import (
	"math/rand"
	"slices"
	"strconv"
	"testing"

	"ropewalk/api"
	"ropewalk/graft"
	"ropewalk/heap"
	"ropewalk/machine"
	"ropewalk/system"
)

// The symbols of systems that a seed chooses: constructors first.
const plain = "con a/0, s/1, p/2; fun r/0, f/1, g/2, h/3"

var arities = []int{0, 1, 2, 0, 1, 2, 3}

const constructors = 3

// someSystem has rules that a seed chooses, of those that a system takes.
func someSystem(t testing.TB, random *rand.Rand, tries int) *system.System {
	t.Helper()
	y := made(t, plain)
	for range tries {
		y.AddRules([]api.Rule{someRule(random)})
	}
	return y
}

// someRule is one that a system mostly takes.
func someRule(random *rand.Rand) api.Rule {
	root := constructors + random.Intn(len(arities)-constructors)
	left, variables := api.Term{root}, 0
	for range arities[root] {
		left = append(left, somePattern(random, 2, &variables)...)
	}
	return api.Rule{Left: left, Right: someRight(random, 1+random.Intn(3), variables)}
}

func somePattern(random *rand.Rand, depth int, variables *int) api.Term {
	if depth == 0 || random.Intn(2) == 0 {
		*variables++
		return api.Term{-*variables}
	}
	t := api.Term{random.Intn(constructors)}
	for range arities[t[0]] {
		t = append(t, somePattern(random, depth-1, variables)...)
	}
	return t
}

func someRight(random *rand.Rand, depth, variables int) api.Term {
	if variables > 0 && (depth == 0 || random.Intn(3) == 0) {
		return api.Term{-1 - random.Intn(variables)}
	}
	if depth == 0 {
		return api.Term{[]int{0, 0, 0, 3}[random.Intn(4)]}
	}
	t := api.Term{random.Intn(len(arities))}
	for range arities[t[0]] {
		t = append(t, someRight(random, depth-1, variables)...)
	}
	return t
}

// someTerm is closed, and of that depth at most.
func someTerm(random *rand.Rand, depth int) api.Term {
	return someRight(random, depth, 0)
}

// someNodes lead forwards and backwards; each application has as many arguments as its symbol says.
func someNodes(random *rand.Rand, count int) []api.Node {
	order := random.Perm(count)
	l := make([]api.Node, count)
	for n, a := range order {
		l[a] = someNode(random, order[:n])
	}
	return l
}

func someNode(random *rand.Rand, to []int) api.Node {
	if len(to) == 0 {
		return marked(random.Intn(3), []int{0, 3}[random.Intn(2)])
	}
	if random.Intn(5) == 0 {
		return ind(to[random.Intn(len(to))])
	}
	x := marked(random.Intn(3), random.Intn(len(arities)))
	for range arities[x.Symbol] {
		x.Args = append(x.Args, to[random.Intn(len(to))])
	}
	return x
}

// pair is a machine and what it must be.
type pair struct {
	system  *system.System
	heap    *heap.Heap
	machine *machine.Machine
	model   *model
}

func somePair(t testing.TB, random *rand.Rand) pair {
	t.Helper()
	y := someSystem(t, random, random.Intn(14))
	count := 1 + random.Intn(9)
	h := refilled(t, count+random.Intn(1+random.Intn(20)), someNodes(random, count)...)
	m := modelOf(y, h)
	return pair{y, h, over(t, y, h), m}
}

// address is mostly one of the heap's.
func (x pair) address(random *rand.Rand) int {
	if random.Intn(12) == 0 {
		return []int{-1, x.heap.Used(), 4000}[random.Intn(3)]
	}
	return random.Intn(max(1, x.heap.Used()))
}

// does does one thing to both, and asks for the same answer: what it was.
func (x pair) does(t testing.TB, random *rand.Rand) string {
	t.Helper()
	m, k := x.model, x.machine
	switch n := random.Intn(40); {
	case n < 2:
		a := x.address(random)
		m.catchUp()
		want := m.start(a)
		is(t, "Start", k.Start(a), want)
		return "start " + want.Error()
	case n < 4:
		var l []int
		for range random.Intn(4) {
			l = append(l, x.address(random))
		}
		m.catchUp()
		want := m.hold(l)
		is(t, "Hold", k.Hold(l), want)
		return "hold " + want.Error()
	case n < 6:
		m.catchUp()
		collects(t, k, m.collect())
		return "collect"
	case n < 7:
		x.system.AddRules([]api.Rule{someRule(random)})
		return "rules"
	case n < 8:
		x.system.AddSymbols([]api.Symbol{{Name: "n" + strconv.Itoa(x.system.Sig().Len()), Arity: random.Intn(3), Defined: random.Intn(2) == 0}})
		return "symbols"
	case n < 10:
		x.grows(random)
		return "nodes"
	case n < 13:
		many := random.Intn(20) - 2
		m.catchUp()
		want, word := m.run(many)
		runs(t, k, many, want, word)
		return "run " + word
	default:
		m.catchUp()
		want, word := m.step()
		got, err := k.Step()
		if shownStep(got) != shownStep(want) || told(t, err) != word {
			t.Fatalf("Step: %s, %s, not %s, %s", shownStep(got), told(t, err), shownStep(want), word)
		}
		return "step " + strconv.Itoa(got.Kind) + word
	}
}

// grows adds nodes to the heap, as somebody else may: terms, and applications, of symbols that came later, or with arguments that may not be, too.
func (x pair) grows(random *rand.Rand) {
	if random.Intn(2) == 0 {
		graft.Load(x.system.Sig(), x.heap, someTerm(random, 2))
	} else {
		symbol, used := random.Intn(x.system.Sig().Len()+1), x.heap.Used()
		about, _ := x.system.Sig().At(symbol)
		var args []int
		for range min(used*7, about.Arity+random.Intn(15)/14) {
			args = append(args, random.Intn(used))
		}
		x.heap.Make(symbol, args...)
	}
	for a := len(x.model.nodes); a < x.heap.Used(); a++ {
		n, _ := x.heap.At(a)
		x.model.nodes = append(x.model.nodes, n)
	}
}

// P15.1 to P15.6, R2, R3: whatever is done, in whatever order.
func TestWhateverIsDone(t *testing.T) {
	random := rand.New(rand.NewSource(15))
	met := map[string]int{}
	for range 1500 {
		x := somePair(t, random)
		for range 60 {
			before := x.model.whole()
			what := x.does(t, random)
			met[what]++
			if what == "rules" || what == "symbols" || what == "nodes" {
				continue // the machine has not looked yet: the next call must
			}
			if got := shownNodes(nodesOf(x.heap)); got != shownNodes(x.model.nodes) {
				t.Fatalf("%s: the nodes are %s, not %s; of %s", what, got, shownNodes(x.model.nodes), before)
			}
			if got := whole(x.machine, x.heap); got != x.model.whole() || t.Failed() {
				t.Fatalf("%s: %s, not %s; of %s", what, got, x.model.whole(), before)
			}
		}
	}
	for _, what := range []string{
		"start " + api.OK.Error(), "start " + api.ErrMachineNode.Error(), "hold " + api.OK.Error(), "hold " + api.ErrMachineNode.Error(), "collect", "rules", "symbols", "nodes",
		"run ", "run 150@0", "run 151@2 111", "step 1", "step 2", "step 3", "step 4", "step 5", "step 6", "step 0150@0", "step 0151@1 111", "step 0151@2 111", "step 0151@3 111",
	} {
		if met[what] < 25 {
			t.Errorf("%q was met %d times", what, met[what])
		}
	}
}

// P15.3: Run of n is n Steps: two machines that are alike, one of which runs, and one of which steps.
func TestRunIsSteps(t *testing.T) {
	for seed := range 1500 {
		x, y := somePair(t, rand.New(rand.NewSource(int64(seed)))), somePair(t, rand.New(rand.NewSource(int64(seed))))
		random := rand.New(rand.NewSource(int64(seed)))
		a := x.address(random)
		x.machine.Start(a)
		y.machine.Start(a)
		for range 8 {
			many := random.Intn(30) - 1
			ran, err := x.machine.Run(many)
			var want api.Ran
			word := ""
			for want.Steps < many {
				s, err := y.machine.Step()
				if word = told(t, err); word != "" {
					break
				}
				if want.Done = s.Kind == api.Done; want.Done {
					break
				}
				want.Steps++
				if s.Kind == api.Contract {
					want.Contracted++
				}
			}
			if _, e := x.machine.Root(); e != api.OK {
				word = "150@0"
			}
			if ran != want || told(t, err) != word || whole(x.machine, x.heap) != whole(y.machine, y.heap) {
				t.Fatalf("seed %d: Run(%d): %v, %s, not %v, %s", seed, many, ran, told(t, err), want, word)
			}
		}
	}
}

// claims asks for what the document says of the whole, step by step.
type claims struct {
	pair
	words    words
	deadline int // so many steps may be done till one of them contracts, is done, or is refused
	met      map[string]int
}

// step does a Step, and asks for W1, W2, W4, P15.6 and P15.7.
func (c *claims) step(t testing.TB) api.Step {
	t.Helper()
	nodes := nodesOf(c.heap)
	root, _ := c.machine.Root()
	held := c.machine.Held()
	focus, path, _ := c.machine.Focus()
	frames := len(c.machine.Frames())
	live := c.live(nodes, root, held)
	c.deadline = min(c.deadline, 15*len(nodes)+frames+1)
	x, err := c.machine.Step()
	c.deadline--
	switch {
	case err != nil:
		c.refused(t, err, live)
		c.deadline = 1 << 30
	case x.Kind == api.Contract:
		c.contracted(t, x, nodes, root, held, focus, path, live)
		c.deadline = 1 << 30
	case x.Kind == api.Done:
		c.deadline = 1 << 30
	}
	if c.deadline <= 0 {
		t.Fatalf("too many steps, none of which contracts")
	}
	if err != nil || x.Kind != api.Contract { // W1: no term is another one
		c.sameTerms(t, nodes, append(held, root))
	}
	c.marksAreTrue(t)
	return x
}

// live is how many applications stand at or beneath the root, the frames' nodes and the held ones.
func (c *claims) live(nodes []api.Node, root int, held []int) int {
	m := model{nodes: nodes}
	l := append(slices.Clone(held), root)
	for _, x := range c.machine.Frames() {
		l = append(l, x.Node)
	}
	return len(m.live(l))
}

// refused asks for W4 where a Step is refused.
func (c *claims) refused(t testing.TB, err error, live int) {
	t.Helper()
	x, ok := err.(*api.Fault)
	if !ok || x.Code != api.ErrMachineFull || live+x.At <= c.heap.Room() {
		t.Fatalf("Step: %s, though %d nodes are live, of %d", told(t, err), live, c.heap.Room())
	}
	c.met["full"]++
}

// weight is how many symbols a rule's right side has.
func (w words) weight(rule int) int {
	count := 0
	for _, n := range w.rules[rule].Right {
		if n >= 0 {
			count++
		}
	}
	return count
}

// contracted asks for W1, W2 and W4 where a Step contracted the node that was in focus.
func (c *claims) contracted(t testing.TB, x api.Step, nodes []api.Node, root int, held []int, focus int, path []int, live int) {
	t.Helper()
	if live+c.words.weight(x.Rule) > c.heap.Room() {
		t.Fatalf("%s, though %d nodes are live, of %d", shownStep(x), live, c.heap.Room())
	}
	if node, e := c.heap.At(x.Node); !node.Points || e != api.OK || !slices.Equal(x.Path, path) {
		t.Fatalf("%s: it is %s; the path was %v", shownStep(x), shown(node), path)
	}
	after := nodesOf(c.heap)
	now, _ := c.machine.Root()
	if before := termOf(nodes, root); before != nil {
		places := copiesOf(nodes, root, focus)
		if len(places) == 0 {
			t.Fatalf("%s: it stands nowhere", shownStep(x))
		}
		c.turned(t, x, before, places, termOf(after, now))
		at := c.words.along(before, 0, path)
		if at != c.words.needed(before, 0) || !slices.Contains(places, at) || c.words.ruleAt(before, at) != x.Rule {
			t.Fatalf("%s: %d of %v is not needed", shownStep(x), at, before)
		}
		c.met["contract"]++
		if len(places) > 1 {
			c.met["copies"]++
		}
	}
	for n, a := range held {
		if before := termOf(nodes, a); before != nil {
			c.turned(t, x, before, copiesOf(nodes, a, focus), termOf(after, c.machine.Held()[n]))
		}
	}
}

// turned asks whether a term is what comes of contracting all copies of a node.
func (c *claims) turned(t testing.TB, x api.Step, before api.Term, places []int, after api.Term) {
	t.Helper()
	for n, at := range places {
		if c.words.ruleAt(before, at) != x.Rule || n > 0 && at < c.words.end(before, places[n-1]) {
			t.Fatalf("%s: the places %v of %v", shownStep(x), places, before)
		}
	}
	if want := c.words.all(before, places, x.Rule); len(want) <= longest && !slices.Equal(after, want) {
		t.Fatalf("%s: %v becomes %v, not %v", shownStep(x), before, after, want)
	}
}

// sameTerms asks whether those nodes, the last of which was the root, have the terms that they had.
func (c *claims) sameTerms(t testing.TB, nodes []api.Node, l []int) {
	t.Helper()
	now := c.machine.Held()
	root, _ := c.machine.Root()
	for n, a := range append(now, root) {
		if x, y := termOf(nodes, l[n]), termOf(nodesOf(c.heap), a); !slices.Equal(x, y) {
			t.Fatalf("%v becomes %v", x, y)
		}
	}
}

// marksAreTrue asks for P15.6.
func (c *claims) marksAreTrue(t testing.TB) {
	t.Helper()
	nodes := nodesOf(c.heap)
	for a, x := range nodes {
		if x.Points || x.Mark == api.Fresh {
			continue
		}
		term := termOf(nodes, a)
		if term == nil {
			continue
		}
		if !c.words.isRigid(term, 0) || x.Mark == api.Settled && (!c.words.isNormal(term) || c.words.needed(term, 0) >= 0) {
			t.Fatalf("%s at %d, of the term %v", shown(x), a, term)
		}
		c.met["marks"]++
	}
}

// P15.6, P15.7, W1, W2, W4: runs of systems and graphs that a seed chooses, with more and with less room; with rules that come, and with collections.
func TestClaims(t *testing.T) {
	random := rand.New(rand.NewSource(16))
	met := map[string]int{}
	for range 2500 {
		x := somePair(t, random)
		c := claims{pair: x, words: wordsOf(t, x.system), deadline: 1 << 30, met: met}
		if x.machine.Start(random.Intn(x.heap.Used())) != api.OK {
			continue
		}
		for range 80 {
			switch n := random.Intn(60); n {
			case 0:
				x.system.AddRules([]api.Rule{someRule(random)})
				x.machine.Held() // it looks
				c.words, c.deadline = wordsOf(t, x.system), 1<<30
			case 1:
				x.machine.Collect()
				c.deadline = 1 << 30
			case 2, 3:
				x.machine.Hold([]int{random.Intn(x.heap.Used()), random.Intn(x.heap.Used())})
			}
			if s := c.step(t); s.Kind == api.Done {
				met["done"]++
				c.isNormal(t)
				x.machine.Start(random.Intn(x.heap.Used()))
			}
		}
	}
	for what, least := range map[string]int{"contract": 10000, "copies": 2000, "full": 1000, "marks": 50000, "done": 2000} {
		if met[what] < least {
			t.Errorf("%q was met %d times", what, met[what])
		}
	}
}

// isNormal asks whether the root's term is in normal form, where nothing is left to do.
func (c *claims) isNormal(t testing.TB) {
	t.Helper()
	root, _ := c.machine.Root()
	if x := termOf(nodesOf(c.heap), root); x != nil && !c.words.isNormal(x) {
		t.Fatalf("%v is done", x)
	}
}
