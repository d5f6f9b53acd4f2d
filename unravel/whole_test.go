package unravel_test

import (
	"math/rand"
	"slices"
	"testing"

	"ropewalk/api"
	"ropewalk/graft"
	"ropewalk/heap"
	"ropewalk/notation"
	"ropewalk/slide"
	"ropewalk/term"
	"ropewalk/unravel"
)

// nodesOfThree are all nodes that lead to some of three addresses, with at most two arguments, each with a symbol of its own.
func nodesOfThree() []api.Node {
	l := []api.Node{app(z)}
	for b := range 3 {
		l = append(l, ind(b), app(s, b))
		for c := range 3 {
			l = append(l, app(p, b, c))
		}
	}
	return l
}

// P16.1 to P16.5: all heaps of three nodes, by a signature that has their symbols, and by one that lacks one of them and has another otherwise.
func TestAllHeapsOfThree(t *testing.T) {
	few := []api.Symbol{{Name: "z"}, {Name: "s", Arity: 2}}
	count, named, shared, fewer := 0, 0, 0, 0
	for _, x := range nodesOfThree() {
		for _, y := range nodesOfThree() {
			for _, v := range nodesOfThree() {
				m := model{x, y, v}
				h, _ := heap.New(3)
				if h.Refill(m) != api.OK {
					continue
				}
				count++
				n, k := agrees(t, symbols(), m)
				named, shared = named+n, shared+k
				n, _ = agrees(t, few, m)
				fewer += n
			}
		}
	}
	if count < 100 || named != 3*count || shared < 100 || fewer < 100 || fewer >= named {
		t.Errorf("%d heaps, %d terms that are written, %d that share, %d by few symbols", count, named, shared, fewer)
	}
}

// P16.1 to P16.5, R2: heaps that a seed chooses, whose nodes lead forwards and backwards.
func TestByChance(t *testing.T) {
	random := rand.New(rand.NewSource(16))
	nodes, named, shared := 0, 0, 0
	for n := range 3000 {
		m := someNodes(random, random.Intn(8), n%2 == 0)
		k, l := agrees(t, symbols(), m)
		nodes, named, shared = nodes+len(m), named+k, shared+l
		if t.Failed() {
			t.FailNow()
		}
	}
	if named < 5000 || nodes-named < 500 || shared < 2000 {
		t.Errorf("%d nodes, %d that can be written, %d with shared ones", nodes, named, shared)
	}
}

// address is one that a seed chooses; 0, if there is no node.
func address(random *rand.Rand, h *heap.Heap) int { return random.Intn(max(1, h.Used())) }

// P16.1 to P16.6: among all else that is done to a heap.
func TestWhateverIsDone(t *testing.T) {
	random := rand.New(rand.NewSource(17))
	pointed := 0
	for range 200 {
		q := ask(t)
		q.h, _ = heap.New(8)
		for range 40 {
			switch random.Intn(8) {
			case 0, 1, 2:
				symbol := random.Intn(f)
				args := make([]int, symbols()[symbol].Arity)
				for i := range args {
					args[i] = address(random, q.h)
				}
				q.h.Make(symbol, args...)
			case 3, 4:
				if q.h.Point(address(random, q.h), address(random, q.h)) == api.OK {
					pointed++
				}
			case 5:
				q.h.Mark(address(random, q.h), random.Intn(3))
			case 6:
				q.h.Clear()
			default:
				slide.Collect(q.h, []int{address(random, q.h), address(random, q.h)})
			}
			if q.h.Used() > 0 {
				q.all(symbols(), nodesOf(q.h), address(random, q.h))
			}
		}
	}
	if pointed < 500 {
		t.Errorf("%d nodes were pointed elsewhere", pointed)
	}
}

// someTerm is a closed term that a seed chooses, of that depth at most.
func someTerm(random *rand.Rand, depth int) api.Term {
	if depth <= 1 {
		return api.Term{[]int{z, r}[random.Intn(2)]}
	}
	symbol := random.Intn(lacking)
	t := api.Term{symbol}
	for range symbols()[symbol].Arity {
		t = append(t, someTerm(random, depth-1)...)
	}
	return t
}

// loads asks of what Load answers, which has a node of its own at each place: that of the place 0 is the answer, that of each other one has an address one less than that of the place ahead of it.
func loads(t testing.TB, q asked, x api.Term) {
	t.Helper()
	a, err := graft.Load(q.g, q.h, x)
	if err != nil {
		t.Fatal(told(t, err))
	}
	text, _ := notation.PrintTerm(q.g, x)
	q.size(a, len(x))
	q.term(a, x...)
	q.shared(a)
	q.sharing(a, text)
	q.print(a, len(x), text)
	q.print(a, -1, text)
	for _, place := range []int{0, 1, 2, len(x) / 2, len(x) - 2, len(x) - 1} {
		if place >= 0 && place < len(x) {
			q.copies(a, a-place, place)
		}
	}
	for node := range min(a-len(x)+1, 20) {
		q.copies(a, node)
	}
}

// P16.6, W6: Term of what Load answered is what was loaded, up to MaxTerm symbols; and whatever was loaded ahead of it.
func TestLoaded(t *testing.T) {
	random := rand.New(rand.NewSource(18))
	for range 300 {
		q := ask(t)
		q.h, _ = heap.New(api.MaxRoom)
		for range 3 {
			if x := someTerm(random, 1+random.Intn(5)); len(x) <= api.MaxTerm && q.h.Used()+len(x) <= 200 {
				loads(t, q, x)
			}
		}
	}
	q := ask(t)
	q.h, _ = heap.New(api.MaxRoom)
	loads(t, q, append(slices.Repeat([]int{s}, 1999), z))
	loads(t, q, append(slices.Repeat([]int{p, r}, 999), d, z))
}

// P16.6: what the text of Print says is read as the term that Term tells, where it is written whole.
func TestReadAgain(t *testing.T) {
	random := rand.New(rand.NewSource(19))
	for range 1000 {
		m := someNodes(random, 1+random.Intn(7), true)
		q := asked{t, signature(t), filled(t, m...)}
		for a := range m {
			x, err := notation.Term(q.g, plainOf(t, q, a))
			if err != nil {
				t.Fatal(told(t, err))
			}
			q.term(a, x...)
		}
	}
}

// P16.2: what stands at a place of the term is the term of the node of which that place is a copy.
func TestCopiesAreSubterms(t *testing.T) {
	random := rand.New(rand.NewSource(20))
	for range 500 {
		m := someNodes(random, 1+random.Intn(7), true)
		q := asked{t, signature(t), filled(t, m...)}
		x, _ := unravel.Term(q.h, 0)
		count := 0
		for node := range m {
			l, _ := unravel.Copies(q.h, 0, node)
			for _, place := range l {
				sub, e := term.Sub(q.g, x, place)
				if e != api.OK {
					t.Fatal(e)
				}
				q.term(node, sub...)
			}
			if !m[node].Points {
				count += len(l)
			}
		}
		q.size(0, count) // each place is one application's copy
	}
}

// W6: what the collector does is seen in addresses alone.
func TestCollected(t *testing.T) {
	random := rand.New(rand.NewSource(21))
	for range 1000 {
		m := someNodes(random, 1+random.Intn(8), true)
		q := asked{t, signature(t), filled(t, m...)}
		roots := make([]int, len(m))
		for a := range roots {
			roots[a] = a
		}
		random.Shuffle(len(roots), func(i, j int) { roots[i], roots[j] = roots[j], roots[i] })
		roots = roots[:1+random.Intn(len(roots))]
		then, _, e := slide.Collect(q.h, roots)
		if e != api.OK {
			t.Fatal(e)
		}
		for i, a := range roots {
			q.size(then[i], len(m.stand(a)))
			q.term(then[i], m.term(a)...)
			q.texts(symbols(), m, a, then[i])
			for j, node := range roots {
				q.copies(then[i], then[j], m.copies(a, node)...)
			}
		}
	}
}
