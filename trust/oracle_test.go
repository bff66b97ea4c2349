package trust_test

import (
	"crypto/sha256"
	"slices"
	"strconv"
	"testing"

	"hallmark/api"
	"hallmark/keys"
	"hallmark/role"
	"hallmark/trust"
)

const mostTime = 1 << 40

// oracle follows the chapter: the roots that were trusted, one after another. What a root's encoding is, and what meets a role, is layer 16's.
type oracle struct {
	roots []role.Root
}

func (o *oracle) last() role.Root { return o.roots[len(o.roots)-1] }

// meets says whether marks for a root's encoding meet a role.
func meets(by role.Role, r role.Root, marks []role.Mark) bool {
	b, _ := role.Encode(r)
	return role.Meets(by, b, marks)
}

// offered is the oracle of New, if nothing was trusted yet, and of Update.
func (o *oracle) offered(r role.Root, marks []role.Mark) api.Errno {
	first := len(o.roots) == 0
	switch {
	case !role.RightRoot(r):
		return api.ErrRole
	case !first && r.Version != o.last().Version+1:
		return api.ErrVersion
	case !meets(r.Root, r, marks), !first && !meets(o.last().Root, r, marks):
		return api.ErrThreshold
	}
	o.roots = append(o.roots, r)
	return api.OK
}

// asked is the oracle of Tag and Head.
func (o *oracle) asked(by role.Role, message string, marks []role.Mark, now int) api.Errno {
	switch {
	case now > o.last().Until:
		return api.ErrExpired
	case !role.Meets(by, []byte(message), marks):
		return api.ErrThreshold
	}
	return api.OK
}

// some is a digest, another one for each i.
func some(i int) api.Digest { return sha256.Sum256([]byte(strconv.Itoa(i))) }

// signer is a key, and its public part.
type signer struct {
	key    *keys.Key
	public keys.Public
}

// signers are n keys whose heights differ.
func signers(t *testing.T, n int) []signer {
	t.Helper()
	var l []signer
	for i := range n {
		k, e := keys.New(some(i), i%3)
		if e != api.OK {
			t.Fatalf("keys.New: %d", e)
		}
		l = append(l, signer{k, k.Public()})
	}
	return l
}

// mark is a mark of a key. It is always that of the key's first index: nothing of the tests hangs on what a signature reveals.
func (s signer) mark(t *testing.T, message string) role.Mark {
	t.Helper()
	copied := *s.key
	sig, e := copied.Sign([]byte(message))
	if e != api.OK {
		t.Fatalf("Sign: %d", e)
	}
	return role.Mark{Id: keys.Id(s.public), Sig: sig}
}

// marks are marks of some keys for a message.
func marks(t *testing.T, message string, by ...signer) []role.Mark {
	t.Helper()
	var l []role.Mark
	for _, s := range by {
		l = append(l, s.mark(t, message))
	}
	return l
}

// signed are marks of some keys for a root's encoding.
func signed(t *testing.T, r role.Root, by ...signer) []role.Mark {
	t.Helper()
	b, e := role.Encode(r)
	if e != api.OK {
		t.Fatalf("role.Encode: %d", e)
	}
	return marks(t, string(b), by...)
}

// of is a role of some keys, of which so many must sign.
func of(need int, by ...signer) role.Role {
	r := role.Role{Need: need}
	for _, s := range by {
		r.Keys = append(r.Keys, s.public)
	}
	return r
}

// rootOf is a root of three roles.
func rootOf(version int, root, tags, log role.Role) role.Root {
	return role.Root{Version: version, Until: 1000, Root: root, Tags: tags, Log: log}
}

func sameRole(a, b role.Role) bool { return a.Need == b.Need && slices.Equal(a.Keys, b.Keys) }

func sameRoot(a, b role.Root) bool {
	return a.Version == b.Version && a.Until == b.Until && sameRole(a.Root, b.Root) && sameRole(a.Tags, b.Tags) && sameRole(a.Log, b.Log)
}

// copied is a root in memory of its own.
func copied(r role.Root) role.Root {
	r.Root.Keys, r.Tags.Keys, r.Log.Keys = slices.Clone(r.Root.Keys), slices.Clone(r.Tags.Keys), slices.Clone(r.Log.Keys)
	return r
}

// believed is a trust in a root that is signed by these.
func believed(t *testing.T, r role.Root, by ...signer) *trust.Trust {
	t.Helper()
	x, e := trust.New(r, signed(t, r, by...))
	if e != api.OK || x == nil || !sameRoot(x.Root(), r) {
		t.Fatalf("New: %v, %d", x, e)
	}
	return x
}

func TestOracle(t *testing.T) { // the example of the chapter holds for what the other tests hold the package against
	l := signers(t, 3)
	a, b, c := l[0], l[1], l[2]
	o := oracle{}
	first := rootOf(1, of(1, a), of(1, a), of(1, c))
	second := rootOf(2, of(1, b), of(1, b), of(1, c))
	if e := o.offered(first, signed(t, first, a)); e != api.OK {
		t.Errorf("New: %d", e)
	}
	if e := o.offered(second, signed(t, second, b)); e != api.ErrThreshold {
		t.Errorf("Update with the new key's mark: %d", e)
	}
	if e := o.offered(second, signed(t, second, a, b)); e != api.OK {
		t.Errorf("Update: %d", e)
	}
	if e := o.asked(o.last().Tags, "m", marks(t, "m", a), 1); e != api.ErrThreshold {
		t.Errorf("Tag by the old key: %d", e)
	}
	if e := o.asked(o.last().Tags, "m", marks(t, "m", b), 1001); e != api.ErrExpired {
		t.Errorf("Tag too late: %d", e)
	}
}
