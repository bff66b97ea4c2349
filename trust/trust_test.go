package trust_test

import (
	"math"
	"math/rand"
	"slices"
	"testing"

	"hallmark/api"
	"hallmark/keys"
	"hallmark/role"
	"hallmark/trust"
)

// wrongRoots are roots that aren't valid, all but the last ones for one reason.
func wrongRoots(good role.Root) []role.Root {
	var l []role.Root
	add := func(change func(r *role.Root)) {
		r := copied(good)
		change(&r)
		l = append(l, r)
	}
	for _, version := range []int{math.MinInt, -1, 0, mostTime + 1, math.MaxInt} {
		add(func(r *role.Root) { r.Version = version })
	}
	for _, until := range []int{math.MinInt, -1, mostTime + 1, math.MaxInt} {
		add(func(r *role.Root) { r.Until = until })
	}
	for i := range 3 {
		part := func(r *role.Root) *role.Role { return []*role.Role{&r.Root, &r.Tags, &r.Log}[i] }
		add(func(r *role.Root) { part(r).Need = 0 })
		add(func(r *role.Root) { part(r).Need = -1 })
		add(func(r *role.Root) { part(r).Need = len(part(r).Keys) + 1 })
		add(func(r *role.Root) { part(r).Keys = nil })
		add(func(r *role.Root) { part(r).Keys[0].Height = 7 })
		add(func(r *role.Root) { part(r).Keys[0].Height = -1 })
		add(func(r *role.Root) { part(r).Keys = append(part(r).Keys, part(r).Keys[0]) })
		add(func(r *role.Root) {
			for j := range 17 {
				part(r).Keys = append(part(r).Keys, keys.Public{Root: some(100 + j)})
			}
		})
		add(func(r *role.Root) { *part(r) = role.Role{} })
	}
	return append(l, role.Root{})
}

func TestExample(t *testing.T) { // P17.1, P17.2
	l := signers(t, 2)
	before, after := l[0], l[1]
	first := rootOf(1, of(1, before), of(1, before), of(1, before))
	second := rootOf(2, of(1, after), of(1, after), of(1, after))
	x := believed(t, first, before)
	for _, by := range [][]signer{nil, {after}, {before}, {after, after}} {
		if e := x.Update(second, signed(t, second, by...)); e != api.ErrThreshold || !sameRoot(x.Root(), first) {
			t.Errorf("Update with %d marks: %d, %+v", len(by), e, x.Root())
		}
	}
	if e := x.Tag([]byte("m"), marks(t, "m", before), 5); e != api.OK {
		t.Errorf("Tag by the old key: %d", e)
	}
	if e := x.Update(second, signed(t, second, before, after)); e != api.OK || !sameRoot(x.Root(), second) {
		t.Fatalf("Update: %d, %+v", e, x.Root())
	}
	for _, ask := range []func([]byte, []role.Mark, int) api.Errno{x.Tag, x.Head} {
		if e := ask([]byte("m"), marks(t, "m", before), 5); e != api.ErrThreshold {
			t.Errorf("asked by the old key: %d", e)
		}
		if e := ask([]byte("m"), marks(t, "m", before, after), 5); e != api.OK {
			t.Errorf("asked by the new key: %d", e)
		}
	}
}

func TestNew(t *testing.T) { // P17.1: the role Root is met by marks for the encoding, and no other role is asked
	l := signers(t, 6)
	for need := 1; need <= 3; need++ {
		r := rootOf(1, of(need, l[0], l[1], l[2]), of(2, l[3], l[4]), of(1, l[5]))
		for subset := range 64 {
			var by []signer
			n := 0
			for i, s := range l {
				if subset>>i&1 == 1 {
					by = append(by, s)
					if i < 3 {
						n++
					}
				}
			}
			x, e := trust.New(r, signed(t, r, by...))
			if n >= need && (e != api.OK || x == nil || !sameRoot(x.Root(), r)) {
				t.Errorf("New with Need %d by the keys %b: %v, %d", need, subset, x, e)
			}
			if n < need && (e != api.ErrThreshold || x != nil) {
				t.Errorf("New with Need %d by the keys %b: %v, %d, not ErrThreshold", need, subset, x, e)
			}
		}
	}
}

func TestNewOfAnyVersion(t *testing.T) { // P17.1
	l := signers(t, 1)
	for _, version := range []int{1, 2, 255, 1 << 32, mostTime - 1, mostTime} {
		for _, until := range []int{0, 1, mostTime} {
			r := rootOf(version, of(1, l[0]), of(1, l[0]), of(1, l[0]))
			r.Until = until
			believed(t, r, l[0])
		}
	}
}

func TestMarksOfAnotherRoot(t *testing.T) { // P17.1: marks for the encoding of r, whatever differs
	l := signers(t, 3)
	good := rootOf(2, of(1, l[0]), of(1, l[1]), of(1, l[2]))
	others := []role.Root{
		rootOf(1, good.Root, good.Tags, good.Log), rootOf(3, good.Root, good.Tags, good.Log),
		rootOf(2, of(1, l[0], l[1]), good.Tags, good.Log), rootOf(2, good.Root, of(1, l[2]), good.Log), rootOf(2, good.Root, good.Tags, of(1, l[0])),
		rootOf(2, good.Root, good.Log, good.Tags),
	}
	late := copied(good)
	late.Until++
	for i, other := range append(others, late) {
		if x, e := trust.New(good, signed(t, other, l...)); x != nil || e != api.ErrThreshold {
			t.Errorf("New with marks for the root %d: %v, %d", i, x, e)
		}
		x := believed(t, others[0], l[0])
		if e := x.Update(good, signed(t, other, l...)); e != api.ErrThreshold || !sameRoot(x.Root(), others[0]) {
			t.Errorf("Update with marks for the root %d: %d", i, e)
		}
	}
	for _, message := range []string{"", "m", "\x08"} {
		if x, e := trust.New(good, marks(t, message, l...)); x != nil || e != api.ErrThreshold {
			t.Errorf("New with marks for %q: %v, %d", message, x, e)
		}
	}
}

func TestNewOfWrongRoots(t *testing.T) { // P17.1: ErrRole, ahead of ErrThreshold
	l := signers(t, 1)
	good := rootOf(1, of(1, l[0]), of(1, l[0]), of(1, l[0]))
	for i, r := range wrongRoots(good) {
		for _, m := range [][]role.Mark{nil, signed(t, good, l[0]), marks(t, "", l[0])} {
			if x, e := trust.New(r, m); x != nil || e != api.ErrRole {
				t.Errorf("New of the wrong root %d: %v, %d", i, x, e)
			}
		}
	}
	if x, e := trust.New(good, nil); x != nil || e != api.ErrThreshold {
		t.Errorf("New without marks: %v, %d", x, e)
	}
}

func TestUpdateOfWrongRoots(t *testing.T) { // P17.1: ErrRole, ErrVersion, ErrThreshold, in this order
	l := signers(t, 2)
	first := rootOf(5, of(1, l[0]), of(1, l[0]), of(1, l[0]))
	next := rootOf(6, of(1, l[1]), of(1, l[0]), of(1, l[0]))
	x := believed(t, first, l[0])
	for i, r := range wrongRoots(next) {
		for _, m := range [][]role.Mark{nil, signed(t, next, l...), signed(t, first, l...)} {
			if e := x.Update(r, m); e != api.ErrRole || !sameRoot(x.Root(), first) {
				t.Errorf("Update to the wrong root %d: %d", i, e)
			}
		}
	}
	for _, version := range []int{1, 2, 4, 5, 7, 8, 261, 262, 1<<32 + 6, mostTime - 1, mostTime} {
		r := copied(next)
		r.Version = version
		for _, m := range [][]role.Mark{nil, signed(t, r, l...), signed(t, next, l...)} {
			if e := x.Update(r, m); e != api.ErrVersion || !sameRoot(x.Root(), first) {
				t.Errorf("Update to the version %d: %d", version, e)
			}
		}
	}
	if e := x.Update(next, nil); e != api.ErrThreshold || !sameRoot(x.Root(), first) {
		t.Errorf("Update without marks: %d", e)
	}
	if e := x.Update(next, signed(t, next, l...)); e != api.OK || !sameRoot(x.Root(), next) {
		t.Errorf("Update: %d", e)
	}
	if e := x.Update(next, signed(t, next, l...)); e != api.ErrVersion || !sameRoot(x.Root(), next) {
		t.Errorf("Update to the same root: %d", e)
	}
}

func TestUpdateToTheLastVersion(t *testing.T) { // P17.1
	l := signers(t, 1)
	r := rootOf(mostTime-1, of(1, l[0]), of(1, l[0]), of(1, l[0]))
	x := believed(t, r, l[0])
	r.Version++
	if e := x.Update(r, signed(t, r, l[0])); e != api.OK || !sameRoot(x.Root(), r) {
		t.Errorf("Update: %d", e)
	}
	b, last := []byte("m"), copied(r)
	r.Version++
	if e := x.Update(r, marks(t, "m", l[0])); e != api.ErrRole || !sameRoot(x.Root(), last) {
		t.Errorf("Update beyond the last version: %d", e)
	}
	if e := x.Tag(b, marks(t, "m", l[0]), 0); e != api.OK {
		t.Errorf("Tag: %d", e)
	}
}

func TestUpdateOfThresholds(t *testing.T) { // P17.1: both the old role Root and the new one, each by its own Need
	l := signers(t, 5)
	for oldNeed := 1; oldNeed <= 3; oldNeed++ {
		for newNeed := 1; newNeed <= 3; newNeed++ {
			// The key 2 stands in both roles.
			first := rootOf(1, of(oldNeed, l[0], l[1], l[2]), of(1, l[3]), of(1, l[4]))
			next := rootOf(2, of(newNeed, l[2], l[3], l[4]), of(1, l[0]), of(1, l[1]))
			for subset := range 32 {
				o := oracle{roots: []role.Root{first}}
				var by []signer
				for i, s := range l {
					if subset>>i&1 == 1 {
						by = append(by, s)
					}
				}
				m := signed(t, next, by...)
				x := believed(t, first, l...)
				want := o.offered(next, m)
				if e := x.Update(next, m); e != want || !sameRoot(x.Root(), o.last()) {
					t.Errorf("Update with Needs %d and %d by the keys %b: %d, not %d", oldNeed, newNeed, subset, e, want)
				}
			}
		}
	}
}

func TestUpdateOfWhatIsOver(t *testing.T) { // P17.1: no time is asked
	l := signers(t, 1)
	r := rootOf(1, of(1, l[0]), of(1, l[0]), of(1, l[0]))
	r.Until = 0
	x := believed(t, r, l[0])
	if e := x.Tag(nil, nil, 1); e != api.ErrExpired {
		t.Errorf("Tag: %d", e)
	}
	r.Version, r.Until = 2, 7
	if e := x.Update(r, signed(t, r, l[0])); e != api.OK {
		t.Errorf("Update: %d", e)
	}
	if e := x.Tag([]byte("m"), marks(t, "m", l[0]), 7); e != api.OK {
		t.Errorf("Tag: %d", e)
	}
	r.Version, r.Until = 3, 3
	if e := x.Update(r, signed(t, r, l[0])); e != api.OK {
		t.Errorf("Update to an earlier time: %d", e)
	}
	if e := x.Head([]byte("m"), marks(t, "m", l[0]), 4); e != api.ErrExpired {
		t.Errorf("Head: %d", e)
	}
}

func TestTagAndHead(t *testing.T) { // P17.2: each by its own role
	l := signers(t, 6)
	x := believed(t, rootOf(1, of(1, l[0]), of(2, l[1], l[2], l[3]), of(1, l[4], l[5])), l[0])
	o := oracle{roots: []role.Root{x.Root()}}
	for subset := range 64 {
		var by []signer
		for i, s := range l {
			if subset>>i&1 == 1 {
				by = append(by, s)
			}
		}
		m := marks(t, "message", by...)
		for _, message := range []string{"message", "messag", ""} {
			if e := x.Tag([]byte(message), m, 9); e != o.asked(o.last().Tags, message, m, 9) {
				t.Errorf("Tag of %q by the keys %b: %d", message, subset, e)
			}
			if e := x.Head([]byte(message), m, 9); e != o.asked(o.last().Log, message, m, 9) {
				t.Errorf("Head of %q by the keys %b: %d", message, subset, e)
			}
		}
	}
	twice := []role.Mark{l[1].mark(t, "m"), l[1].mark(t, "m")}
	if e := x.Tag([]byte("m"), twice, 9); e != api.ErrThreshold {
		t.Errorf("Tag by one key twice: %d", e)
	}
}

func TestExpired(t *testing.T) { // P17.2: ErrExpired if now is greater than Until, ahead of ErrThreshold
	l := signers(t, 1)
	for _, until := range []int{0, 1, 1000, mostTime} {
		r := rootOf(1, of(1, l[0]), of(1, l[0]), of(1, l[0]))
		r.Until = until
		x := believed(t, r, l[0])
		m := marks(t, "m", l[0])
		for _, now := range []int{math.MinInt, -1, 0, 1, 2, 999, 1000, 1001, mostTime - 1, mostTime, mostTime + 1, math.MaxInt} {
			good, bad := api.OK, api.ErrThreshold
			if now > until {
				good, bad = api.ErrExpired, api.ErrExpired
			}
			for _, ask := range []func([]byte, []role.Mark, int) api.Errno{x.Tag, x.Head} {
				if e := ask([]byte("m"), m, now); e != good {
					t.Errorf("asked at %d, until %d: %d", now, until, e)
				}
				if e := ask([]byte("n"), m, now); e != bad {
					t.Errorf("asked with no right mark at %d, until %d: %d", now, until, e)
				}
			}
		}
	}
}

func TestNil(t *testing.T) { // R1
	var x *trust.Trust
	l := signers(t, 1)
	r := rootOf(1, of(1, l[0]), of(1, l[0]), of(1, l[0]))
	for _, offer := range []role.Root{{}, r} {
		for _, m := range [][]role.Mark{nil, signed(t, r, l[0])} {
			if e := x.Update(offer, m); e != api.ErrNil {
				t.Errorf("Update of a nil trust: %d", e)
			}
		}
	}
	for _, now := range []int{-1, 0, math.MaxInt} {
		if e := x.Tag([]byte("m"), marks(t, "m", l[0]), now); e != api.ErrNil {
			t.Errorf("Tag of a nil trust: %d", e)
		}
		if e := x.Head(nil, nil, now); e != api.ErrNil {
			t.Errorf("Head of a nil trust: %d", e)
		}
	}
	if !sameRoot(x.Root(), role.Root{}) {
		t.Errorf("Root of a nil trust: %+v", x.Root())
	}
}

func TestZeroTrust(t *testing.T) { // R1: not made by New, so that it must only not panic
	l := signers(t, 1)
	r := rootOf(1, of(1, l[0]), of(1, l[0]), of(1, l[0]))
	var x trust.Trust
	x.Root()
	x.Tag(nil, nil, 0)
	x.Head(nil, nil, 1)
	x.Update(r, signed(t, r, l[0]))
	x.Update(role.Root{}, nil)
}

// spoil writes into all memory that a root reaches.
func spoil(r role.Root) {
	for _, x := range []role.Role{r.Root, r.Tags, r.Log} {
		l := x.Keys[:cap(x.Keys)]
		for i := range l {
			l[i] = keys.Public{Height: 5, Root: some(99)}
		}
	}
}

// spare is a root whose lists have more memory than they need.
func spare(r role.Root) role.Root {
	for _, x := range []*role.Role{&r.Root, &r.Tags, &r.Log} {
		x.Keys = append(slices.Clone(x.Keys), keys.Public{Height: 1, Root: some(98)}, keys.Public{})[:len(x.Keys)]
	}
	return r
}

// untouched says whether a root of spare has the memory behind its lists as it was.
func untouched(r role.Root) bool {
	for _, x := range []role.Role{r.Root, r.Tags, r.Log} {
		n := len(x.Keys)
		if l := x.Keys[:n+2]; l[n] != (keys.Public{Height: 1, Root: some(98)}) || l[n+1] != (keys.Public{}) {
			return false
		}
	}
	return true
}

func TestRootsAreKept(t *testing.T) { // P17.1, R3: what is passed is neither changed nor kept, and what is returned is new memory
	l := signers(t, 4)
	first := rootOf(1, of(1, l[0], l[1]), of(1, l[2]), of(1, l[3]))
	second := rootOf(2, of(1, l[1]), of(1, l[3], l[2]), of(1, l[3], l[0]))
	given, m := spare(first), signed(t, first, l[0])
	kept := m[0].Sig
	x, e := trust.New(given, m)
	if e != api.OK || !sameRoot(given, first) || !untouched(given) || m[0].Sig.Chains != kept.Chains || !slices.Equal(m[0].Sig.Path, kept.Path) {
		t.Fatalf("New: %d; its arguments are %+v, %+v", e, given, m)
	}
	spoil(given)
	for range 2 {
		if got := x.Root(); !sameRoot(got, first) {
			t.Fatalf("Root: %+v", got)
		}
		spoil(x.Root())
	}
	given = spare(second)
	if e := x.Update(given, signed(t, second, l...)); e != api.OK || !sameRoot(given, second) || !untouched(given) {
		t.Fatalf("Update: %d; its argument is %+v", e, given)
	}
	spoil(given)
	for range 2 {
		if got := x.Root(); !sameRoot(got, second) {
			t.Fatalf("Root: %+v", got)
		}
		spoil(x.Root())
	}
	if e := x.Head([]byte("m"), marks(t, "m", l[0]), 1); e != api.OK {
		t.Errorf("Head: %d", e)
	}
}

func TestListsOfARootApart(t *testing.T) { // R3: no two lists of a result share memory, though one role stands in all three places
	l := signers(t, 3)
	one := of(1, l...)
	r := rootOf(1, one, one, one)
	x := believed(t, r, l[0])
	for i := range 3 {
		got := x.Root()
		parts := []*role.Role{&got.Root, &got.Tags, &got.Log}
		list := parts[i].Keys[:cap(parts[i].Keys)]
		for j := range list {
			list[j] = keys.Public{}
		}
		parts[i].Keys = r.Root.Keys
		if !sameRoot(got, r) {
			t.Errorf("the list %d shares memory: %+v", i, got)
		}
	}
}

func TestTrustsApart(t *testing.T) { // R5
	l := signers(t, 2)
	first := rootOf(1, of(1, l[0]), of(1, l[0]), of(1, l[0]))
	second := rootOf(2, of(1, l[0]), of(1, l[1]), of(1, l[1]))
	a, b := believed(t, first, l[0]), believed(t, first, l[0])
	if e := a.Update(second, signed(t, second, l[0])); e != api.OK || !sameRoot(a.Root(), second) || !sameRoot(b.Root(), first) {
		t.Errorf("Update: %d, %+v", e, b.Root())
	}
}

// TestRotation offers roots of all sorts, and asks the trust in between.
func TestRotation(t *testing.T) { // P17.1, P17.2, P17.3
	rnd := rand.New(rand.NewSource(17))
	l := signers(t, 4)
	pick := func() (by []signer) {
		for _, i := range rnd.Perm(4)[:rnd.Intn(5)] {
			by = append(by, l[i])
		}
		return by
	}
	anyRole := func() role.Role {
		by := pick()
		return of(min(1+rnd.Intn(2), len(by)), by...)
	}
	answers := map[api.Errno]int{}
	for range 20 {
		o := oracle{}
		first := rootOf(1+rnd.Intn(3), of(1, l[0], l[1]), of(1, l[0]), of(1, l[2]))
		x := believed(t, first, l[1])
		o.offered(first, signed(t, first, l[1]))
		for range 40 {
			r := rootOf(o.last().Version+[]int{1, 1, 1, 1, 1, 1, 0, 2, -1}[rnd.Intn(9)], anyRole(), anyRole(), anyRole())
			r.Until = 1000 + rnd.Intn(3)
			var m []role.Mark
			if role.RightRoot(r) {
				m = signed(t, r, append(pick(), pick()...)...)
			}
			want := o.offered(r, m)
			if e := x.Update(r, m); e != want || !sameRoot(x.Root(), o.last()) {
				t.Fatalf("Update: %d, not %d; Root: %+v, not %+v", e, want, x.Root(), o.last())
			}
			answers[want]++
			now, by := 999+rnd.Intn(5), marks(t, "m", pick()...)
			if e := x.Tag([]byte("m"), by, now); e != o.asked(o.last().Tags, "m", by, now) {
				t.Fatalf("Tag: %d", e)
			}
			if e := x.Head([]byte("m"), by, now); e != o.asked(o.last().Log, "m", by, now) {
				t.Fatalf("Head: %d", e)
			}
		}
		for i := 1; i < len(o.roots); i++ {
			if o.roots[i].Version != o.roots[i-1].Version+1 {
				t.Fatalf("the version %d follows %d", o.roots[i].Version, o.roots[i-1].Version)
			}
		}
	}
	for _, e := range []api.Errno{api.OK, api.ErrRole, api.ErrVersion, api.ErrThreshold} {
		if answers[e] < 20 {
			t.Errorf("%d is answered %d times only: the test tells little", e, answers[e])
		}
	}
}
