package graph_test

import (
	"math/rand"
	"slices"
	"testing"

	"hallmark/api"
	"hallmark/graph"
)

// put makes a node where there is a graph.
func put(t *testing.T, g *graph.Graph, of api.Digest, to ...api.Digest) {
	t.Helper()
	if e := g.Put(of, to...); e != api.OK {
		t.Fatalf("Put: %d", e)
	}
}

// spoil puts other bytes in the place of all of a slice, also beyond its length.
func spoil(l []api.Digest) {
	for i := range l[:cap(l)] {
		l[:cap(l)][i] = api.Digest{0xee, byte(i)}
	}
}

// roomy is the same digests with as many others behind them in the slice's memory.
func roomy(l []api.Digest) []api.Digest {
	m := append(slices.Clone(l), l...)
	for i := range l {
		m[len(l)+i] = api.Digest{0xdd, byte(i)}
	}
	return m[:len(l)]
}

func TestExample(t *testing.T) { // P18.1, P18.2
	g := graph.New()
	a, b, c := d(1), d(2), d(3)
	put(t, g, a, b, c)
	put(t, g, b)
	put(t, g, c, a)
	if l := g.Reach(b); !slices.Equal(l, []api.Digest{b}) {
		t.Errorf("Reach of b: %x", l)
	}
	if l := g.Reach(c); !slices.Equal(l, inOrder([]api.Digest{a, b, c})) {
		t.Errorf("Reach of c: %x", l)
	}
	if n := g.Refs(b); n != 1 {
		t.Errorf("Refs of b: %d", n)
	}
	m := graph.Mark(g, a)
	if m.Step(1) || m.Left() != 2 || !m.Step(9) || m.Left() != 0 {
		t.Errorf("Step: %d are left", m.Left())
	}
}

func TestNew(t *testing.T) { // P18.1
	g := graph.New()
	sameGraph(t, g, &oracle{}, ds(0, 1, 2))
	if l := g.Reach(ds(0, 1)...); len(l) != 0 {
		t.Errorf("Reach: %x", l)
	}
	other := graph.New()
	put(t, g, d(1), d(2))
	sameGraph(t, other, &oracle{}, ds(0, 1, 2))
}

func TestPut(t *testing.T) { // P18.1: the edges as they were put, in the place of all previous ones
	g, o := graph.New(), &oracle{}
	all := ds(0, 1, 2, 3, 4, 5)
	for _, to := range [][]api.Digest{ds(2, 1), nil, ds(1, 2), ds(3, 3, 3), ds(0), ds(5, 0, 5, 1, 4, 4, 0), {}, ds(4)} {
		for _, of := range ds(0, 1, 2) {
			put(t, g, of, to...)
			o.put(of, to)
			sameGraph(t, g, o, all)
		}
	}
	put(t, g, api.Digest{}, api.Digest{})
	o.put(api.Digest{}, []api.Digest{{}})
	sameGraph(t, g, o, all)
}

func TestDrop(t *testing.T) { // P18.1: the node goes, and edges to it stay
	g, o := graph.New(), &oracle{}
	all := ds(0, 1, 2, 3)
	if e := g.Drop(d(0)); e != api.ErrNone {
		t.Errorf("Drop from an empty graph: %d", e)
	}
	for i := range 3 {
		put(t, g, d(i), ds(0, 1, 2, 3)...)
		o.put(d(i), ds(0, 1, 2, 3))
	}
	if e := g.Drop(d(3)); e != api.ErrNone {
		t.Errorf("Drop of what is led to alone: %d", e)
	}
	sameGraph(t, g, o, all)
	for i := range 3 {
		for _, want := range []api.Errno{api.OK, api.ErrNone, api.ErrNone} {
			if e := g.Drop(d(i)); e != want {
				t.Errorf("Drop: %d, not %d", e, want)
			}
		}
		o.drop(d(i))
		sameGraph(t, g, o, all)
		if l := g.Reach(all...); !slices.Equal(l, o.all()) {
			t.Errorf("Reach: %x", l)
		}
	}
	put(t, g, d(1), d(1))
	o.put(d(1), ds(1))
	sameGraph(t, g, o, all)
}

func TestNodesInOrder(t *testing.T) { // P18.1: the order is that of bytes, each from 0 to 255, the first one first
	var all []api.Digest
	for at := range 32 {
		for _, b := range []byte{1, 2, 127, 128, 254, 255} {
			x := api.Digest{}
			x[at] = b
			y := x
			y[31-at] ^= 9
			all = append(all, x, y)
		}
	}
	all = append(all, api.Digest{})
	rand.New(rand.NewSource(1)).Shuffle(len(all), func(i, j int) { all[i], all[j] = all[j], all[i] })
	g := graph.New()
	for _, x := range all {
		put(t, g, x, all...)
	}
	want := inOrder(all)
	if l := g.Nodes(); !slices.Equal(l, want) {
		t.Errorf("Nodes: %x", l)
	}
	for _, x := range all[:20] {
		if l := g.Reach(x); !slices.Equal(l, want) {
			t.Errorf("Reach: %x", l)
		}
		if n := g.Refs(x); n != len(want) {
			t.Errorf("Refs: %d", n)
		}
	}
}

func TestRefsCountsNodes(t *testing.T) { // P18.1: each node once, also one that leads to itself, and also to what is no node
	g := graph.New()
	put(t, g, d(1), ds(1, 9, 1, 9, 9)...)
	put(t, g, d(2), ds(9)...)
	put(t, g, d(3), ds(4, 4)...)
	for _, c := range []struct{ of, want int }{{1, 1}, {2, 0}, {3, 0}, {4, 1}, {9, 2}, {8, 0}} {
		if n := g.Refs(d(c.of)); n != c.want {
			t.Errorf("Refs of %d: %d, not %d", c.of, n, c.want)
		}
	}
	put(t, g, d(1))
	if n := g.Refs(d(9)); n != 1 {
		t.Errorf("Refs behind another Put: %d", n)
	}
	if e := g.Drop(d(2)); e != api.OK || g.Refs(d(9)) != 0 {
		t.Errorf("Refs behind Drop: %d", g.Refs(d(9)))
	}
}

// smallGraph is a graph of up to three nodes, each with edges to some of them.
func smallGraph(t *testing.T, bits int) (*graph.Graph, *oracle) {
	t.Helper()
	g, o := graph.New(), &oracle{}
	for i := range 3 {
		if bits>>(9+i)&1 == 0 {
			continue
		}
		to := subset(bits >> (3 * i))
		put(t, g, d(i), to...)
		o.put(d(i), to)
	}
	return g, o
}

// subset is those of three digests whose bit is 1.
func subset(bits int) []api.Digest {
	var l []api.Digest
	for i := range 3 {
		if bits>>i&1 == 1 {
			l = append(l, d(i))
		}
	}
	return l
}

func TestAllSmallGraphs(t *testing.T) { // P18.1, P18.2, P18.3: all graphs of three digests, from all roots
	for bits := range 1 << 12 {
		g, o := smallGraph(t, bits)
		sameGraph(t, g, o, ds(0, 1, 2))
		for from := range 8 {
			roots := subset(from)
			want := o.reach(roots)
			if l := g.Reach(roots...); !slices.Equal(l, want) {
				t.Fatalf("graph %o, Reach of %o: %x, not %x", bits, from, l, want)
			}
			m, w := graph.Mark(g, roots...), &walk{of: o, queue: roots}
			sameWalk(t, m, w, ds(0, 1, 2))
			for len(w.queue) > 0 {
				if done := m.Step(1); done != w.step(1) {
					t.Fatalf("graph %o, Step from %o: %v", bits, from, done)
				}
				sameWalk(t, m, w, ds(0, 1, 2))
			}
			for _, x := range ds(0, 1, 2) {
				if m.Marked(x) != slices.Contains(want, x) {
					t.Fatalf("graph %o, from %o: what is black is not what is reachable", bits, from)
				}
			}
		}
	}
}

func TestRandomGraphs(t *testing.T) { // P18.1: many Puts and Drops
	r := rand.New(rand.NewSource(2))
	for round := range 60 {
		g, o := graph.New(), &oracle{}
		size := 1 + r.Intn(12)
		all := some(r, size+3, size+3)
		for range 60 {
			of := all[r.Intn(size)]
			if r.Intn(3) > 0 {
				to := some(r, size+3, r.Intn(4))
				put(t, g, of, to...)
				o.put(of, to)
			} else if e := g.Drop(of); e != o.drop(of) {
				t.Fatalf("Drop: %d", e)
			}
			sameGraph(t, g, o, all)
			roots := some(r, size+3, r.Intn(3))
			if l := g.Reach(roots...); !slices.Equal(l, o.reach(roots)) {
				t.Fatalf("round %d: Reach of %x: %x, not %x", round, roots, l, o.reach(roots))
			}
		}
	}
}

// some is count digests out of the first size ones, each as often as it comes.
func some(r *rand.Rand, size, count int) []api.Digest {
	var l []api.Digest
	for range count {
		l = append(l, d(r.Intn(size)))
	}
	return l
}

func TestReachOfMany(t *testing.T) { // P18.1, R1: a long way, and many ways to the same node
	const size = 1 << 17
	g := graph.New()
	for i := range size {
		put(t, g, d(i), d(i+1), d(size/2), d(i), d(i+1))
	}
	if l := g.Reach(d(0)); len(l) != size || !slices.Equal(l, g.Nodes()) {
		t.Errorf("Reach: %d nodes", len(l))
	}
	if l := g.Reach(d(size - 10)); len(l) != size/2 {
		t.Errorf("Reach of the last ones: %d nodes", len(l))
	}
	if n := g.Refs(d(size / 2)); n != size {
		t.Errorf("Refs: %d", n)
	}
}

func TestReachOfAllToAll(t *testing.T) { // P18.1, R1
	const size = 600
	var all []api.Digest
	for i := range size {
		all = append(all, d(i))
	}
	g := graph.New()
	for _, x := range all {
		put(t, g, x, all...)
	}
	if l := g.Reach(all...); !slices.Equal(l, inOrder(all)) {
		t.Errorf("Reach: %d nodes", len(l))
	}
}

func TestReachChangesNothing(t *testing.T) { // P18.1, P18.2
	g, o := graph.New(), &oracle{}
	for i := range 5 {
		put(t, g, d(i), ds(i+1, i, 0)...)
		o.put(d(i), ds(i+1, i, 0))
	}
	m, w := graph.Mark(g, d(2)), &walk{of: o, queue: ds(2)}
	m.Step(2)
	w.step(2)
	first := g.Reach(ds(3, 1)...)
	g.Nodes()
	g.Refs(d(0))
	g.Edges(d(0))
	sameGraph(t, g, o, ds(0, 1, 2, 3, 4, 5, 6))
	sameWalk(t, m, w, ds(0, 1, 2, 3, 4, 5, 6))
	if l := g.Reach(ds(3, 1)...); !slices.Equal(l, first) {
		t.Errorf("Reach again: %x", l)
	}
}

func TestNilGraph(t *testing.T) { // P18.1, P18.2, R1
	var g *graph.Graph
	if e := g.Put(d(1), d(2)); e != api.ErrNil {
		t.Errorf("Put: %d", e)
	}
	if e := g.Put(d(1)); e != api.ErrNil {
		t.Errorf("Put without edges: %d", e)
	}
	if e := g.Drop(d(1)); e != api.ErrNil {
		t.Errorf("Drop: %d", e)
	}
	sameGraph(t, g, &oracle{}, ds(0, 1, 2))
	if len(g.Reach()) != 0 || len(g.Reach(d(1))) != 0 {
		t.Error("Reach")
	}
	if graph.Mark(g) != nil || graph.Mark(g, d(1)) != nil {
		t.Error("a marker of no graph")
	}
}

func TestUnmadeObjectsPanicNowhere(t *testing.T) { // R1
	for _, g := range []*graph.Graph{{}, new(graph.Graph)} {
		g.Edges(d(1))
		g.Nodes()
		g.Refs(d(1))
		g.Reach(d(1))
		g.Drop(d(1))
		graph.Mark(g, d(1)).Step(9)
		g.Put(d(1), d(2))
		g.Drop(d(1))
	}
	for _, m := range []*graph.Marker{{}, new(graph.Marker)} {
		m.Marked(d(1))
		m.Left()
		m.Step(9)
		m.Gray(d(1))
		m.Step(9)
	}
}

func TestArgumentsAreNeitherChangedNorKept(t *testing.T) { // R3, R4
	g, o := graph.New(), &oracle{}
	for i := range 6 {
		to := roomy(ds(i+1, i, i+2, i+1)[:i%5])
		before := slices.Clone(to[:cap(to)])
		put(t, g, d(i), to...)
		g.Reach(to...)
		if !slices.Equal(before, to[:cap(to)]) {
			t.Errorf("Put or Reach changed what it was given: %x", to[:cap(to)])
		}
		o.put(d(i), to)
		spoil(to)
		sameGraph(t, g, o, ds(0, 1, 2, 3, 4, 5, 6, 7))
	}
}

func TestResultsAreNewMemory(t *testing.T) { // R3
	g, o := graph.New(), &oracle{}
	all := ds(0, 1, 2, 3, 4, 5, 6, 7, 8)
	for i := range 7 {
		put(t, g, d(i), ds(i+1, i, i+2, i+1, 0)[:i%6]...)
		o.put(d(i), ds(i+1, i, i+2, i+1, 0)[:i%6])
	}
	for i := range 7 {
		first, _ := g.Edges(d(i))
		second, _ := g.Edges(d(i))
		want := slices.Clone(second)
		spoil(first)
		if !slices.Equal(second, want) {
			t.Errorf("two calls of Edges share memory: %x", second)
		}
		spoil(second)
	}
	for _, ask := range []func() []api.Digest{g.Nodes, func() []api.Digest { return g.Reach(all...) }} {
		first, second := ask(), ask()
		want := slices.Clone(second)
		spoil(first)
		if !slices.Equal(second, want) {
			t.Errorf("two calls share memory: %x", second)
		}
		spoil(second)
	}
	sameGraph(t, g, o, all)
	if l := g.Reach(all...); !slices.Equal(l, o.all()) {
		t.Errorf("Reach: %x", l)
	}
}

func TestEdgesPutAgain(t *testing.T) { // R3: what was told is put elsewhere, and is changed afterwards
	g := graph.New()
	put(t, g, d(1), ds(1, 2, 3)...)
	to, _ := g.Edges(d(1))
	put(t, g, d(2), to...)
	put(t, g, d(1), to[:2]...)
	to[0] = d(9)
	spoil(to)
	one, _ := g.Edges(d(1))
	two, _ := g.Edges(d(2))
	if !slices.Equal(one, ds(1, 2)) || !slices.Equal(two, ds(1, 2, 3)) {
		t.Errorf("Edges: %x, %x", one, two)
	}
}
