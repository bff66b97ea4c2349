package disk_test

import (
	"fmt"
	"maps"
	"slices"
	"strings"
	"testing"

	"hallmark/api"
	"hallmark/disk"
)

// contents are the bytes of files by their names.
type contents map[string]string

// act is one call that may change a disk.
type act struct {
	what     string
	name, to string
	p        string
	n, part  int
}

func (a act) String() string {
	return fmt.Sprintf("%s %.20q %.20q %d bytes %d %d", a.what, a.name, a.to, len(a.p), a.n, a.part)
}

// on has the act done.
func (a act) on(d *disk.Disk) api.Errno {
	switch a.what {
	case "create":
		return d.Create(a.name)
	case "append":
		return d.Append(a.name, []byte(a.p))
	case "remove":
		return d.Remove(a.name)
	case "rename":
		return d.Rename(a.name, a.to)
	case "sync":
		return d.Sync()
	case "fuse":
		return d.Fuse(a.n)
	case "crash":
		return d.Crash(a.n, a.part)
	}
	panic(a.what)
}

// model is the oracle of a disk: it remembers all contents since the last Sync.
type model struct {
	room   int
	states []contents
	loose  []act
	fused  bool
	fuse   int
	down   bool
}

func newModel(room int) *model { return &model{room: room, states: []contents{{}}} }

// now is what read operations see.
func (m *model) now() contents { return m.states[len(m.states)-1] }

func (m *model) used() int {
	n := 0
	for _, s := range m.now() {
		n += len(s)
	}
	return n
}

func isFileName(s string) bool { return s != "" && len(s) < 161 }

// refusal is why a change is not even a step.
func (m *model) refusal(a act) api.Errno {
	_, has := m.now()[a.name]
	switch {
	case a.what == "sync":
	case a.what == "create" && !isFileName(a.name):
		return api.ErrArg
	case a.what == "create" && has:
		return api.ErrTwice
	case a.what == "create" && len(m.now()) == 4096:
		return api.ErrFull
	case a.what == "create":
	case !has:
		return api.ErrNone
	case a.what == "append" && len(a.p) > 1048576:
		return api.ErrLimit
	case a.what == "append" && m.used()+len(a.p) > m.room:
		return api.ErrFull
	case a.what == "rename" && !isFileName(a.to):
		return api.ErrArg
	}
	return api.OK
}

// do is what the act must answer.
func (m *model) do(a act) api.Errno {
	if a.what == "crash" {
		m.crash(a.n, a.part)
		return api.OK
	}
	if m.down {
		return api.ErrDown
	}
	if a.what == "fuse" {
		m.fused, m.fuse = a.n >= 0, a.n
		return api.OK
	}
	if e := m.refusal(a); e != api.OK {
		return e
	}
	if m.fused && m.fuse == 0 {
		m.down = true
		return api.ErrDown
	}
	m.fuse--
	if a.what == "sync" {
		m.states, m.loose = m.states[len(m.states)-1:], nil
		return api.OK
	}
	m.states, m.loose = append(m.states, after(m.now(), a)), append(m.loose, a)
	return api.OK
}

// after is what a change makes of contents.
func after(c contents, a act) contents {
	c = maps.Clone(c)
	switch a.what {
	case "create":
		c[a.name] = ""
	case "append":
		c[a.name] += a.p
	case "remove":
		delete(c, a.name)
	case "rename":
		s := c[a.name]
		delete(c, a.name)
		c[a.to] = s
	}
	return c
}

func (m *model) crash(keep, part int) {
	if keep < 0 {
		keep = 0
	}
	if keep > len(m.loose) {
		keep = len(m.loose)
	}
	c := m.states[keep]
	if keep < len(m.loose) && m.loose[keep].what == "append" && part > 0 {
		a := m.loose[keep]
		if part < len(a.p) {
			a.p = a.p[:part]
		}
		c = after(c, a)
	}
	m.states, m.loose, m.fused, m.down = []contents{c}, nil, false, false
}

// is reports it unless what the disk shows is what the model holds.
func (m *model) is(t *testing.T, d *disk.Disk) bool {
	t.Helper()
	if d.Used() != m.used() || d.Loose() != len(m.loose) || d.Down() != m.down {
		t.Errorf("Used, Loose, Down are %d, %d, %v, not %d, %d, %v", d.Used(), d.Loose(), d.Down(), m.used(), len(m.loose), m.down)
		return false
	}
	if m.down {
		return true
	}
	if got := shown(t, d); !maps.Equal(got, m.now()) {
		t.Errorf("the disk has %.300q, not %.300q", got, m.now())
		return false
	}
	return true
}

// shown are the contents that the disk's read operations show.
func shown(t *testing.T, d *disk.Disk) contents {
	t.Helper()
	names, e := d.Names("")
	if e != api.OK || !slices.IsSorted(names) {
		t.Fatalf("Names: %.300q, %d", names, e)
	}
	c := contents{}
	for _, s := range names {
		n, e := d.Size(s)
		b, f := d.Read(s, 0, n)
		if e != api.OK || f != api.OK || len(b) != n {
			t.Fatalf("Size(%q) = %d, %d; Read: %d bytes, %d", s, n, e, len(b), f)
		}
		if _, twice := c[s]; twice {
			t.Fatalf("Names tells %q twice", s)
		}
		c[s] = string(b)
	}
	return c
}

// made is a new disk.
func made(t testing.TB, room int) *disk.Disk {
	t.Helper()
	d, e := disk.New(room)
	if d == nil || e != api.OK {
		t.Fatalf("New(%d) = %v, %d", room, d, e)
	}
	return d
}

// agrees does the acts, and reports the first one after which the disk and the model differ.
func agrees(t *testing.T, d *disk.Disk, m *model, acts ...act) bool {
	t.Helper()
	for i, a := range acts {
		if e, want := a.on(d), m.do(a); e != want {
			t.Errorf("%v: act %d answers %d, not %d", acts, i, e, want)
			return false
		}
		if !m.is(t, d) {
			t.Errorf("after act %d of %v", i, acts)
			return false
		}
	}
	return true
}

func creates(name string) act     { return act{what: "create", name: name} }
func appends(name, p string) act  { return act{what: "append", name: name, p: p} }
func removes(name string) act     { return act{what: "remove", name: name} }
func renames(from, to string) act { return act{what: "rename", name: from, to: to} }
func syncs() act                  { return act{what: "sync"} }
func fuses(n int) act             { return act{what: "fuse", n: n} }
func crashes(keep, part int) act  { return act{what: "crash", n: keep, part: part} }

func TestOracle(t *testing.T) { // the examples of the chapter hold for what the other tests hold the package against
	for _, x := range []struct {
		acts []act
		want contents
	}{
		{[]act{creates("a"), appends("a", "xy"), crashes(1, 1)}, contents{"a": "x"}},
		{[]act{creates("a"), appends("a", "xy"), crashes(0, 9)}, contents{}},
		{[]act{creates("a"), appends("a", "xy"), syncs(), crashes(1, 1)}, contents{"a": "xy"}},
		{[]act{creates("a"), appends("a", "xy"), syncs(), crashes(0, 9)}, contents{"a": "xy"}},
		{[]act{fuses(1), creates("b"), syncs(), crashes(9, 0)}, contents{"b": ""}},
	} {
		m := newModel(9)
		for i, a := range x.acts {
			want := api.OK
			if i == 2 && x.acts[0].what == "fuse" {
				want = api.ErrDown
			}
			if e := m.do(a); e != want {
				t.Errorf("%v: act %d answers %d", x.acts, i, e)
			}
		}
		if !maps.Equal(m.now(), x.want) {
			t.Errorf("%v: %q, not %q", x.acts, m.now(), x.want)
		}
	}
	m := newModel(3)
	for _, x := range []struct {
		a act
		e api.Errno
	}{
		{creates(""), api.ErrArg}, {creates("a"), api.OK}, {creates("a"), api.ErrTwice}, {appends("b", ""), api.ErrNone}, {appends("a", "1234"), api.ErrFull},
		{appends("a", strings.Repeat("x", 1<<20+1)), api.ErrLimit}, {renames("b", ""), api.ErrNone}, {renames("a", ""), api.ErrArg}, {removes("b"), api.ErrNone},
	} {
		if e := m.do(x.a); e != x.e {
			t.Errorf("%v answers %d, not %d", x.a, e, x.e)
		}
	}
}
