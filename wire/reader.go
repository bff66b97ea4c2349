package wire

import (
	"hallmark/api"
	"hallmark/octet"
)

// reader takes an encoding apart, field by field. Where a field is none, nothing is left to read, so that those behind it are none either, and all are zero.
type reader struct {
	rest []byte
	bad  bool
}

// fail ends the reading: the bytes are no encoding.
func (r *reader) fail() { r.rest, r.bad = nil, true }

// isOver says whether all fields were there, and nothing behind them.
func (r *reader) isOver() bool { return !r.bad && len(r.rest) == 0 }

// take is the next n bytes, in the memory of the encoding.
func (r *reader) take(n int) []byte {
	if len(r.rest) < n {
		r.fail()
		return nil
	}
	p := r.rest[:n]
	r.rest = r.rest[n:]
	return p
}

// number8 is the number that is the next byte.
func (r *reader) number8() int {
	n, _ := octet.Get(r.take(1))
	return int(n)
}

// sum is the next digest.
func (r *reader) sum() api.Digest {
	var d api.Digest
	copy(d[:], r.take(digestSize))
	return d
}

// number is the next number, which may be so great at most.
func (r *reader) number(most uint64) int {
	n, used, e := octet.ReadCount(r.rest)
	if e != api.OK || n > most {
		r.fail()
		return 0
	}
	r.rest = r.rest[used:]
	return int(n)
}

// times reads the next numbers to where they belong.
func (r *reader) times(l ...*int) {
	for _, to := range l {
		*to = r.number(api.MaxTime)
	}
}

// text is the bytes of the next Text, which may be so many at most.
func (r *reader) text(most int) []byte {
	p, used, e := octet.ReadText(r.rest, most)
	if e != api.OK {
		r.fail()
		return nil
	}
	r.rest = r.rest[used:]
	return p
}

// words is the next list of words.
func (r *reader) words() []string {
	l := make([]string, r.number(api.MaxList))
	for i := range l {
		l[i] = string(r.text(api.MaxRepo))
	}
	return l
}

// sums is the next list of digests. There are as many as their bytes are, so that a number alone doesn't make a long list.
func (r *reader) sums() []api.Digest {
	p := r.take(r.number(api.MaxItems) * digestSize)
	l := make([]api.Digest, len(p)/digestSize)
	for i := range l {
		l[i] = api.Digest(p[i*digestSize:])
	}
	return l
}
