package wire

import (
	"slices"

	"amphora/api"
)

// Reader reads bytes. It keeps those that aren't read yet, of a copy of its own, and none once it is broken.
type Reader struct {
	rest   []byte
	broken bool
}

// NewReader is a reader of bytes.
func NewReader(b []byte) *Reader {
	return &Reader{rest: slices.Clone(b)}
}

// Var reads a short number.
func (r *Reader) Var() int {
	if r.Err() != nil {
		return 0
	}
	n, size, err := ReadVar(r.rest)
	if err != nil {
		r.spoil()
		return 0
	}
	r.rest = r.rest[size:]
	return n
}

// Num reads a long number.
func (r *Reader) Num() int {
	n, err := ReadNum(r.Raw(numLen))
	if err != nil { // Raw had no eight bytes, and broke the reader
		return 0
	}
	return n
}

// Field reads a field's bytes.
func (r *Reader) Field() []byte {
	size := r.Var()
	if size > api.MaxField {
		r.spoil()
		return nil
	}
	return r.Raw(size)
}

// Raw reads the next n bytes.
func (r *Reader) Raw(n int) []byte {
	if r.Err() != nil {
		return nil
	}
	if n < 0 || n > len(r.rest) {
		r.spoil()
		return nil
	}
	piece := r.rest[:n:n] // without spare room, so that nothing put behind the piece gets into the rest; the piece itself is never read again
	r.rest = r.rest[n:]
	return piece
}

// Left is how many bytes aren't read yet.
func (r *Reader) Left() int {
	if r == nil {
		return 0
	}
	return len(r.rest)
}

// Err tells whether it is broken.
func (r *Reader) Err() error {
	if r == nil || r.broken {
		return api.ErrWire
	}
	return nil
}

// Done tells whether it is broken, or something is left.
func (r *Reader) Done() error {
	if r.Err() != nil || r.Left() > 0 {
		return api.ErrWire
	}
	return nil
}

func (r *Reader) spoil() {
	r.rest = nil
	r.broken = true
}
