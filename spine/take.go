package spine

import (
	"slices"

	"ropewalk/api"
)

// copied is a frame that shares no memory with another one.
func copied(f api.Frame) api.Frame {
	f.Path = slices.Clone(f.Path)
	return f
}

// path takes the frames' Paths, one behind the other.
type path []int

func (p *path) take(f api.Frame) { *p = append(*p, f.Path...) }

// nodes takes the frames' Nodes.
type nodes []int

func (l *nodes) take(f api.Frame) { *l = append(*l, f.Node) }

// frames takes the frames whole.
type frames []api.Frame

func (l *frames) take(f api.Frame) { *l = append(*l, copied(f)) }
