package graph_test

import (
	"bytes"
	"slices"
	"testing"

	"hallmark/api"
	"hallmark/graph"
)

// d is a digest, another one for each i; their order is not that of the numbers, and some differ in their last byte alone.
func d(i int) api.Digest {
	x := api.Digest{31: byte(i)}
	if i%3 != 0 {
		x[0] = byte(i * 151)
	}
	x[15], x[16] = byte(i>>8), byte(i>>16)
	return x
}

// ds is the digests of some numbers.
func ds(numbers ...int) []api.Digest {
	l := make([]api.Digest, 0, len(numbers))
	for _, i := range numbers {
		l = append(l, d(i))
	}
	return l
}

// inOrder is some digests in byte order, each once.
func inOrder(l []api.Digest) []api.Digest {
	l = slices.Clone(l)
	slices.SortFunc(l, func(a, b api.Digest) int { return bytes.Compare(a[:], b[:]) })
	return slices.Compact(l)
}

// node is one node of the oracle.
type node struct {
	of api.Digest
	to []api.Digest
}

// oracle follows the chapter: a list of nodes in which all is searched from the front.
type oracle struct {
	nodes []node
}

func (o *oracle) at(of api.Digest) int {
	return slices.IndexFunc(o.nodes, func(n node) bool { return n.of == of })
}

func (o *oracle) put(of api.Digest, to []api.Digest) {
	if o.at(of) >= 0 {
		o.drop(of)
	}
	o.nodes = append(o.nodes, node{of, slices.Clone(to)})
}

func (o *oracle) drop(of api.Digest) api.Errno {
	i := o.at(of)
	if i < 0 {
		return api.ErrNone
	}
	o.nodes = slices.Delete(o.nodes, i, i+1)
	return api.OK
}

func (o *oracle) edges(of api.Digest) ([]api.Digest, bool) {
	i := o.at(of)
	if i < 0 {
		return nil, false
	}
	return o.nodes[i].to, true
}

func (o *oracle) all() []api.Digest {
	var l []api.Digest
	for _, n := range o.nodes {
		l = append(l, n.of)
	}
	return inOrder(l)
}

func (o *oracle) refs(of api.Digest) int {
	count := 0
	for _, n := range o.nodes {
		if slices.Contains(n.to, of) {
			count++
		}
	}
	return count
}

// reach goes over all nodes until none more is reached.
func (o *oracle) reach(roots []api.Digest) []api.Digest {
	reached := make([]bool, len(o.nodes))
	for i, n := range o.nodes {
		reached[i] = slices.Contains(roots, n.of)
	}
	for more := true; more; {
		more = false
		for i, from := range o.nodes {
			for j, n := range o.nodes {
				if reached[i] && !reached[j] && slices.Contains(from.to, n.of) {
					reached[j], more = true, true
				}
			}
		}
	}
	var l []api.Digest
	for i, n := range o.nodes {
		if reached[i] {
			l = append(l, n.of)
		}
	}
	return inOrder(l)
}

// walk is the oracle of a marker.
type walk struct {
	of    *oracle
	queue []api.Digest
	black []api.Digest
}

func (w *walk) look() {
	first := w.queue[0]
	w.queue = slices.Clone(w.queue[1:])
	to, ok := w.of.edges(first)
	if !ok || slices.Contains(w.black, first) {
		return
	}
	w.black = append(w.black, first)
	for _, next := range to {
		if !slices.Contains(w.black, next) {
			w.queue = append(w.queue, next)
		}
	}
}

func (w *walk) step(n int) bool {
	for i := 0; i < n && len(w.queue) > 0; i++ {
		w.look()
	}
	return len(w.queue) == 0
}

func (w *walk) gray(x api.Digest) {
	w.black = slices.DeleteFunc(w.black, func(y api.Digest) bool { return x == y })
	w.queue = append(w.queue, x)
}

// sameGraph holds all that a graph tells of some digests against the oracle.
func sameGraph(t *testing.T, g *graph.Graph, o *oracle, all []api.Digest) {
	t.Helper()
	if l := g.Nodes(); !slices.Equal(l, o.all()) {
		t.Fatalf("Nodes: %x, not %x", l, o.all())
	}
	for _, x := range all {
		to, ok := g.Edges(x)
		want, there := o.edges(x)
		if ok != there || !slices.Equal(to, want) {
			t.Fatalf("Edges of %x: %x, %v, not %x, %v", x, to, ok, want, there)
		}
		if n := g.Refs(x); n != o.refs(x) {
			t.Fatalf("Refs of %x: %d, not %d", x, n, o.refs(x))
		}
	}
}

// sameWalk holds all that a marker tells of some digests against the oracle.
func sameWalk(t *testing.T, m *graph.Marker, w *walk, all []api.Digest) {
	t.Helper()
	if n := m.Left(); n != len(w.queue) {
		t.Fatalf("Left: %d, not %d", n, len(w.queue))
	}
	for _, x := range all {
		if black := m.Marked(x); black != slices.Contains(w.black, x) {
			t.Fatalf("Marked of %x: %v", x, black)
		}
	}
}

func TestOracle(t *testing.T) {
	o := &oracle{}
	o.put(d(1), ds(2, 3, 2))
	o.put(d(3), ds(1))
	o.put(d(4), ds(4, 9))
	if to, ok := o.edges(d(1)); !ok || !slices.Equal(to, ds(2, 3, 2)) {
		t.Errorf("edges: %x, %v", to, ok)
	}
	if _, ok := o.edges(d(2)); ok {
		t.Error("a digest that is no node has edges")
	}
	if o.refs(d(2)) != 1 || o.refs(d(4)) != 1 || o.refs(d(9)) != 1 || o.refs(d(8)) != 0 {
		t.Error("refs")
	}
	for _, c := range []struct{ from, want []api.Digest }{
		{nil, nil}, {ds(2), nil}, {ds(9), nil}, {ds(1), ds(1, 3)}, {ds(3), ds(1, 3)}, {ds(4, 4), ds(4)}, {ds(2, 4, 3), ds(1, 3, 4)},
	} {
		if l := o.reach(c.from); !slices.Equal(l, inOrder(c.want)) {
			t.Errorf("reach of %x: %x", c.from, l)
		}
	}
	w := &walk{of: o, queue: ds(1)}
	if w.step(0) || w.step(1) || !slices.Equal(w.queue, ds(2, 3, 2)) || !w.step(9) || !slices.Equal(w.black, ds(1, 3)) {
		t.Errorf("step: %x, %x", w.queue, w.black)
	}
	w.gray(d(1))
	if !slices.Equal(w.queue, ds(1)) || !slices.Equal(w.black, ds(3)) || w.step(1) || !slices.Equal(w.queue, ds(2, 2)) {
		t.Errorf("gray: %x, %x", w.queue, w.black)
	}
	if o.drop(d(1)) != api.OK || o.drop(d(1)) != api.ErrNone || !slices.Equal(o.all(), inOrder(ds(3, 4))) {
		t.Error("drop")
	}
	if o.put(d(3), nil); len(o.nodes) != 2 || o.refs(d(1)) != 0 {
		t.Error("put again")
	}
	seen := map[api.Digest]int{}
	for i := range 200000 {
		if seen[d(i)]++; seen[d(i)] > 1 {
			t.Fatalf("d(%d) is another one's", i)
		}
	}
}
