package unify

import "ropewalk/api"

// What a size may be beside a number of numbers.
const (
	unknown = 0
	endless = -1              // the term would lie in itself
	tooMany = api.MaxTerm + 1 // or more: greater ones, which double each time, would not fit into an int
)

// size is how many numbers the term of a part has.
func (j *joint) size(part int) int {
	p := j.leader(part)
	if p < 0 {
		return 1
	}
	if j.sizes[p] != unknown {
		return j.sizes[p]
	}
	j.sizes[p] = endless // till it is counted: who asks till then lies in it
	sum := 1
	for at := p + 1; at < j.ends[p]; at = j.ends[at] {
		n := j.size(at)
		if n == endless {
			return endless
		}
		sum = min(sum+n, tooMany)
	}
	j.sizes[p] = sum
	return sum
}

// writer lays out what parts have become, and numbers the variables as they come. (term.Plain would not: there may be more of them than a term may have.)
type writer struct {
	*joint
	t      api.Term
	number [2*api.MaxVariables + 1]int // 0: not met yet
	last   int
}

func (w *writer) write(part int) {
	p := w.leader(part)
	if p < 0 {
		w.writeVariable(-p)
		return
	}
	w.t = append(w.t, w.list[p])
	for at := p + 1; at < w.ends[p]; at = w.ends[at] {
		w.write(at)
	}
}

func (w *writer) writeVariable(n int) {
	if w.number[n] == 0 {
		w.last++
		w.number[n] = w.last
	}
	w.t = append(w.t, -w.number[n])
}
