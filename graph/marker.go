package graph

import (
	"hallmark/api"
)

// Marker is a walk through a graph that is done step by step.
type Marker struct {
	graph *Graph
	gray  []api.Digest
	black map[api.Digest]struct{}
}

// Mark begins a walk.
func Mark(g *Graph, roots ...api.Digest) *Marker {
	if g == nil {
		return nil
	}
	return &Marker{graph: g, gray: copied(roots)}
}

// Gray lets a digest be looked at, once more, if it was already.
func (m *Marker) Gray(d api.Digest) api.Errno {
	if m == nil {
		return api.ErrNil
	}
	delete(m.black, d)
	m.gray = append(m.gray, d)
	return api.OK
}

// Step looks at some digests, and says whether none is left.
func (m *Marker) Step(n int) bool {
	for ; n > 0 && m.Left() > 0; n-- {
		m.look()
	}
	return m.Left() == 0
}

// look takes the first gray digest; a node that isn't black becomes black, and leads on.
func (m *Marker) look() {
	d := m.gray[0]
	m.gray = m.gray[1:]
	to, ok := m.graph.find(d)
	if !ok || m.Marked(d) {
		return
	}
	m.blacken(d)
	for _, next := range to {
		if !m.Marked(next) {
			m.gray = append(m.gray, next)
		}
	}
}

// blacken makes a node black.
func (m *Marker) blacken(d api.Digest) {
	if m.black == nil {
		m.black = map[api.Digest]struct{}{}
	}
	m.black[d] = struct{}{}
}

// Marked says whether a digest is black.
func (m *Marker) Marked(d api.Digest) bool {
	if m == nil {
		return false
	}
	_, ok := m.black[d]
	return ok
}

// Left is how many digests are gray, each as often as it stands in the queue.
func (m *Marker) Left() int {
	if m == nil {
		return 0
	}
	return len(m.gray)
}
