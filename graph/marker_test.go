package graph_test

import (
	"math"
	"math/rand"
	"slices"
	"testing"

	"hallmark/api"
	"hallmark/graph"
)

// line is a graph in which each node leads to the next one, the last one to what is no node.
func line(t *testing.T, size int) (*graph.Graph, *oracle) {
	t.Helper()
	g, o := graph.New(), &oracle{}
	for i := range size {
		put(t, g, d(i), d(i+1))
		o.put(d(i), ds(i+1))
	}
	return g, o
}

func TestMark(t *testing.T) { // P18.2: the gray digests are the roots as they are, also twice and also what is no node
	g, o := line(t, 3)
	all := ds(0, 1, 2, 3, 4)
	for _, roots := range [][]api.Digest{nil, {}, ds(0), ds(3), ds(4), ds(0, 0), ds(4, 4, 4), ds(2, 0, 4, 1, 2)} {
		m, w := graph.Mark(g, roots...), &walk{of: o, queue: roots}
		if m == nil {
			t.Fatal("no marker")
		}
		sameWalk(t, m, w, all)
		for len(w.queue) > 0 {
			if done := m.Step(1); done != w.step(1) {
				t.Errorf("Step: %v", done)
			}
			sameWalk(t, m, w, all)
		}
		if !m.Step(1) || !m.Step(0) {
			t.Error("Step where nothing is gray")
		}
		sameWalk(t, m, w, all)
	}
}

func TestMarkOfEmptyGraph(t *testing.T) { // P18.2
	m := graph.Mark(graph.New(), ds(1, 2, 1)...)
	for left := 2; left >= 0; left-- {
		if done := m.Step(1); done != (left == 0) || m.Left() != left || m.Marked(d(1)) || m.Marked(d(2)) {
			t.Errorf("Step: %v, %d are left", done, m.Left())
		}
	}
}

func TestStepCounts(t *testing.T) { // P18.2: n looks, or fewer
	g, o := line(t, 9)
	put(t, g, d(4), ds(5, 4, 0, 6, 6, 20)...)
	o.put(d(4), ds(5, 4, 0, 6, 6, 20))
	all := ds(0, 1, 2, 3, 4, 5, 6, 7, 8, 9, 20)
	for n := range 20 {
		m, w := graph.Mark(g, ds(0, 7)...), &walk{of: o, queue: ds(0, 7)}
		for range 4 {
			if done := m.Step(n); done != w.step(n) {
				t.Errorf("Step of %d: %v", n, done)
			}
			sameWalk(t, m, w, all)
		}
	}
	for _, n := range []int{0, -1, -2, math.MinInt32, math.MinInt} {
		m, w := graph.Mark(g, d(0)), &walk{of: o, queue: ds(0)}
		if m.Step(n) {
			t.Errorf("Step of %d: nothing is gray", n)
		}
		sameWalk(t, m, w, all)
		if !graph.Mark(g).Step(n) {
			t.Errorf("Step of %d: something is gray", n)
		}
	}
	for _, n := range []int{math.MaxInt, math.MaxInt - 1, math.MaxInt32, 1 << 40, 1000} {
		m, w := graph.Mark(g, ds(0, 0)...), &walk{of: o, queue: ds(0, 0)}
		if !m.Step(n) || !w.step(1000) {
			t.Errorf("Step of %d: something is gray", n)
		}
		sameWalk(t, m, w, all)
	}
}

func TestLookInOrder(t *testing.T) { // P18.2: the first of the queue is looked at, and what it leads to comes last
	g := graph.New()
	put(t, g, d(0), ds(1, 2)...)
	put(t, g, d(1), ds(4)...)
	put(t, g, d(2), ds(5)...)
	put(t, g, d(3), ds(6)...)
	for i := 4; i < 7; i++ {
		put(t, g, d(i))
	}
	m := graph.Mark(g, ds(0, 3)...)
	for _, i := range []int{0, 3, 1, 2, 6, 4, 5} {
		if m.Marked(d(i)) {
			t.Errorf("%d is black before its turn", i)
		}
		if m.Step(1); !m.Marked(d(i)) {
			t.Errorf("%d is not black at its turn", i)
		}
	}
	if m.Left() != 0 {
		t.Errorf("%d are left", m.Left())
	}
}

func TestWhatALookAppends(t *testing.T) { // P18.2: each edge that is not black, also twice, also what is gray, also what is no node
	for _, c := range []struct {
		to   []api.Digest
		left int
	}{
		{nil, 0}, {ds(0), 0}, {ds(0, 0), 0}, {ds(1), 1}, {ds(1, 1, 1), 3}, {ds(9), 1}, {ds(9, 9), 2}, {ds(1, 0, 9), 2},
	} {
		g := graph.New()
		put(t, g, d(0), c.to...)
		put(t, g, d(1))
		m := graph.Mark(g, d(0))
		if done := m.Step(1); done != (c.left == 0) || m.Left() != c.left {
			t.Errorf("edges %x: %d are left", c.to, m.Left())
		}
		m = graph.Mark(g, ds(0, 1)...)
		if m.Step(1); m.Left() != c.left+1 {
			t.Errorf("edges %x, one of which is gray: %d are left", c.to, m.Left())
		}
		m = graph.Mark(g, ds(1, 0)...)
		black := 0
		for _, x := range c.to {
			if x == d(1) {
				black++
			}
		}
		if m.Step(2); m.Left() != c.left-black {
			t.Errorf("edges %x, one of which is black: %d are left", c.to, m.Left())
		}
		m = graph.Mark(g, ds(0, 0)...)
		m.Step(1)
		if m.Step(1); m.Left() != c.left {
			t.Errorf("edges %x, looked at twice: %d are left", c.to, m.Left())
		}
	}
}

func TestGray(t *testing.T) { // P18.2: not black any more, and the last of the queue
	g, o := line(t, 4)
	all := ds(0, 1, 2, 3, 4, 9)
	m, w := graph.Mark(g, d(0)), &walk{of: o, queue: ds(0)}
	m.Step(9)
	w.step(9)
	for _, i := range []int{2, 2, 0, 9, 4, 1, 2} {
		if e := m.Gray(d(i)); e != api.OK {
			t.Errorf("Gray: %d", e)
		}
		w.gray(d(i))
		sameWalk(t, m, w, all)
		if m.Step(0) {
			t.Error("nothing is gray")
		}
	}
	for len(w.queue) > 0 {
		if done := m.Step(1); done != w.step(1) {
			t.Errorf("Step: %v", done)
		}
		sameWalk(t, m, w, all)
	}
}

func TestGrayOfBlackInQueue(t *testing.T) { // P18.2: black again at its first look, and nothing at its second one
	g := graph.New()
	put(t, g, d(0), d(1))
	put(t, g, d(1))
	m := graph.Mark(g, ds(0, 0)...)
	m.Step(1)
	if e := m.Gray(d(0)); e != api.OK || m.Marked(d(0)) || m.Left() != 3 {
		t.Errorf("Gray: %d, %d are left", e, m.Left())
	}
	if m.Step(1); !m.Marked(d(0)) || m.Left() != 3 {
		t.Errorf("the first look: %d are left", m.Left())
	}
	if m.Step(1); !m.Marked(d(1)) || m.Left() != 2 {
		t.Errorf("the second look: %d are left", m.Left())
	}
	if done := m.Step(2); !done {
		t.Errorf("%d are left", m.Left())
	}
}

func TestLookUsesTheGraphAsItIs(t *testing.T) { // P18.2
	g, o := line(t, 3)
	all := ds(0, 1, 2, 3, 4, 5)
	m, w := graph.Mark(g, ds(0, 4)...), &walk{of: o, queue: ds(0, 4)}
	change := func(of api.Digest, to ...api.Digest) {
		put(t, g, of, to...)
		o.put(of, to)
		sameWalk(t, m, w, all)
	}
	step := func(n int) {
		if done := m.Step(n); done != w.step(n) {
			t.Errorf("Step: %v", done)
		}
		sameWalk(t, m, w, all)
	}
	change(d(0), d(2))
	change(d(4), d(5))
	step(1)
	change(d(0), d(1)) // black already: nobody comes to 1
	step(1)
	change(d(2), d(0))
	step(9)
	if m.Marked(d(1)) || !m.Marked(d(4)) || m.Marked(d(5)) {
		t.Error("a look used another graph")
	}
	if e := g.Drop(d(2)); e != api.OK {
		t.Fatalf("Drop: %d", e)
	}
	o.drop(d(2))
	sameWalk(t, m, w, all) // black stays what a look made black
	m.Gray(d(2))
	w.gray(d(2))
	step(1)
	if m.Marked(d(2)) {
		t.Error("what is no node any more is black")
	}
}

func TestMarkersAreApart(t *testing.T) { // P18.2, R5
	g, o := line(t, 5)
	all := ds(0, 1, 2, 3, 4, 5)
	one, two := graph.Mark(g, d(0)), graph.Mark(g, d(3))
	first, second := &walk{of: o, queue: ds(0)}, &walk{of: o, queue: ds(3)}
	for range 6 {
		one.Step(1)
		first.step(1)
		sameWalk(t, two, second, all)
		two.Gray(d(4))
		second.gray(d(4))
		two.Step(2)
		second.step(2)
		sameWalk(t, one, first, all)
		sameWalk(t, two, second, all)
	}
	sameGraph(t, g, o, all)
}

func TestRandomWalks(t *testing.T) { // P18.2: looks between all sorts of changes
	r := rand.New(rand.NewSource(3))
	for range 300 {
		g, o := graph.New(), &oracle{}
		size := 1 + r.Intn(10)
		all := ds(0, 1, 2, 3, 4, 5, 6, 7, 8, 9, 10, 11, 12)
		roots := some(r, size, r.Intn(4))
		m, w := graph.Mark(g, roots...), &walk{of: o, queue: slices.Clone(roots)}
		for range 60 {
			x := d(r.Intn(size))
			switch r.Intn(6) {
			case 0, 1:
				to := some(r, size+2, r.Intn(4))
				put(t, g, x, to...)
				o.put(x, to)
			case 2:
				if e := g.Drop(x); e != o.drop(x) {
					t.Fatalf("Drop: %d", e)
				}
			case 3:
				if e := m.Gray(x); e != api.OK {
					t.Fatalf("Gray: %d", e)
				}
				w.gray(x)
			default:
				n := r.Intn(5) - 1
				if done := m.Step(n); done != w.step(n) {
					t.Fatalf("Step of %d: %v", n, done)
				}
			}
			sameWalk(t, m, w, all)
		}
		sameGraph(t, g, o, all)
	}
}

// blackOf is those digests that are black.
func blackOf(m *graph.Marker, all []api.Digest) []api.Digest {
	return slices.DeleteFunc(inOrder(all), func(x api.Digest) bool { return !m.Marked(x) })
}

func TestUnchangedGraph(t *testing.T) { // P18.3: what is black is what is reachable, whatever the steps are
	r := rand.New(rand.NewSource(4))
	for range 400 {
		size := 1 + r.Intn(14)
		g, o := graph.New(), &oracle{}
		var all []api.Digest
		for i := range size + 2 {
			all = append(all, d(i))
		}
		for range r.Intn(2 * size) {
			x, to := d(r.Intn(size)), some(r, size+2, r.Intn(4))
			put(t, g, x, to...)
			o.put(x, to)
		}
		roots := some(r, size+2, r.Intn(4))
		m := graph.Mark(g, roots...)
		for steps := 0; !m.Step(1 + r.Intn(4)); steps++ {
			if steps > 1000 {
				t.Fatal("there is no end")
			}
		}
		if black := blackOf(m, all); !slices.Equal(black, o.reach(roots)) || !slices.Equal(black, g.Reach(roots...)) {
			t.Fatalf("from %x: black is %x, not %x", roots, black, o.reach(roots))
		}
	}
}

func TestChangesThatAreGray(t *testing.T) { // P18.3: each Put is followed by a Gray, and nothing reachable is left out
	r := rand.New(rand.NewSource(5))
	for range 400 {
		size := 2 + r.Intn(12)
		g, o := graph.New(), &oracle{}
		var all []api.Digest
		for i := range size + 2 {
			all = append(all, d(i))
		}
		change := func() api.Digest {
			x, to := d(r.Intn(size)), some(r, size+2, r.Intn(4))
			put(t, g, x, to...)
			o.put(x, to)
			return x
		}
		for range r.Intn(2 * size) {
			change()
		}
		roots := some(r, size+2, 1+r.Intn(3))
		m := graph.Mark(g, roots...)
		for range r.Intn(20) {
			m.Step(r.Intn(3))
			x := change()
			m.Step(r.Intn(2) * r.Intn(3))
			m.Gray(x)
		}
		for !m.Step(2) {
		}
		black := blackOf(m, all)
		for _, x := range o.reach(roots) {
			if !slices.Contains(black, x) {
				t.Fatalf("from %x: %x is reachable, and is not black", roots, x)
			}
		}
		for _, x := range black {
			if o.at(x) < 0 {
				t.Fatalf("%x is black, and is no node", x)
			}
		}
	}
}

func TestNodeThatComesLater(t *testing.T) { // P18.3: what was looked at before it was a node
	g := graph.New()
	put(t, g, d(0), d(1))
	m := graph.Mark(g, d(0))
	if !m.Step(2) || m.Marked(d(1)) {
		t.Error("what is no node is black")
	}
	put(t, g, d(1), d(2))
	put(t, g, d(2))
	if !m.Step(9) || m.Marked(d(1)) {
		t.Error("a Put without a Gray is noticed")
	}
	m.Gray(d(1))
	if !m.Step(2) || !m.Marked(d(1)) || !m.Marked(d(2)) {
		t.Error("a Put with a Gray is not noticed")
	}
}

func TestWalkOfMany(t *testing.T) { // P18.3, R1: a long way that becomes gray again and again
	const size = 1 << 16
	g := graph.New()
	for i := range size {
		put(t, g, d(i), d(i+1))
	}
	m := graph.Mark(g, d(0))
	steps := 0
	for !m.Step(1000) {
		steps++
	}
	if steps != size/1000 {
		t.Errorf("%d steps", steps)
	}
	for i := range size {
		if !m.Marked(d(i)) {
			t.Fatalf("%d is not black", i)
		}
	}
	for i := range size {
		m.Gray(d(i))
		if m.Step(1); !m.Marked(d(i)) {
			t.Fatalf("%d is not black again", i)
		}
	}
	if m.Left() != 1 || !m.Step(1) { // what the last node leads to
		t.Errorf("%d are left", m.Left())
	}
}

func TestNilMarker(t *testing.T) { // P18.2, R1
	var m *graph.Marker
	for _, n := range []int{math.MinInt, -1, 0, 1, math.MaxInt} {
		if !m.Step(n) {
			t.Errorf("Step of %d", n)
		}
	}
	if e := m.Gray(d(1)); e != api.ErrNil {
		t.Errorf("Gray: %d", e)
	}
	if m.Marked(d(1)) || m.Marked(api.Digest{}) || m.Left() != 0 {
		t.Error("a nil marker has something")
	}
}

func TestMarkKeepsNothing(t *testing.T) { // P18.2, R3
	g, o := line(t, 6)
	all := ds(0, 1, 2, 3, 4, 5, 6, 9)
	roots := roomy(ds(0, 3, 9))
	before := slices.Clone(roots[:cap(roots)])
	m, w := graph.Mark(g, roots...), &walk{of: o, queue: ds(0, 3, 9)}
	for range 4 {
		m.Gray(d(5))
		w.gray(d(5))
		m.Step(1)
		w.step(1)
	}
	if !slices.Equal(before, roots[:cap(roots)]) {
		t.Errorf("what was given is changed: %x", roots[:cap(roots)])
	}
	m, w = graph.Mark(g, roots...), &walk{of: o, queue: ds(0, 3, 9)}
	spoil(roots)
	sameWalk(t, m, w, all)
	for len(w.queue) > 0 {
		if done := m.Step(1); done != w.step(1) {
			t.Errorf("Step: %v", done)
		}
		sameWalk(t, m, w, all)
	}
	sameGraph(t, g, o, all)
}
