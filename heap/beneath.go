package heap

import "ropewalk/api"

// next are the addresses to which a node leads: what stands beneath it stands there, or beneath that.
func next(x api.Node) []int {
	if x.Points {
		return []int{x.To}
	}
	return x.Args
}

// stands tells whether the node at a is the one at top, or stands beneath it.
func stands(l []api.Node, a, top int) bool {
	met := make([]bool, len(l)) // each node is looked at once, in however many places it stands
	met[top] = true
	found := []int{top}
	for i := 0; i < len(found) && !met[a]; i++ {
		for _, b := range next(l[found[i]]) {
			if !met[b] {
				met[b] = true
				found = append(found, b)
			}
		}
	}
	return met[a]
}

// ringed tells whether a node stands beneath itself. Those to which nothing leads are taken away, and those to which nothing leads then, and so on: if there is a ring, it is left.
func ringed(l []api.Node) bool {
	leading := make([]int, len(l)) // by addresses: how often what is not taken away leads there
	for _, x := range l {
		for _, b := range next(x) {
			leading[b]++
		}
	}
	var taken []int
	for a, n := range leading {
		if n == 0 {
			taken = append(taken, a)
		}
	}
	for i := 0; i < len(taken); i++ {
		for _, b := range next(l[taken[i]]) {
			leading[b]--
			if leading[b] == 0 {
				taken = append(taken, b)
			}
		}
	}
	return len(taken) < len(l)
}
