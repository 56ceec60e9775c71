package rabin

import (
	"amphora/api"
	"amphora/poly"
)

const byteLen = 8 // bits of a byte

// table has a polynomial for each byte.
type table [1 << byteLen]uint64

// products is the remainders by p, which isn't 0, of each byte's product with f. A product with a sum is the sum of the products, so just those with the bytes of one bit are worked out.
func products(p, f uint64) table {
	var t table
	for i := range t {
		low := i & -i
		if i == low {
			t[i], _ = poly.MulMod(p, uint64(i), f)
		} else {
			t[i] = poly.Sum(t[low], t[i-low])
		}
	}
	return t
}

// taker is the fingerprint of a row of bytes that grows.
type taker struct {
	rest  uint64 // the fingerprint, a remainder
	top   int    // from this bit on, a byte behind pushes a fingerprint beyond the degree
	below uint64 // the bits below the degree
	carry table  // what stands for the bits that are pushed beyond
}

// newTaker is the taker of an empty row by a polynomial of degree 8 or more: a fingerprint by a lesser one isn't as long as a byte.
func newTaker(p uint64) taker {
	d := poly.Deg(p)
	beyond := uint64(1) << d
	return taker{top: d - byteLen, below: beyond - 1, carry: products(p, beyond)}
}

// take sets a byte behind the row.
func (t *taker) take(b byte) {
	pushed := byte(t.rest >> t.top)
	t.rest = (t.rest<<byteLen|uint64(b))&t.below ^ t.carry[pushed]
}

// restart makes the row empty.
func (t *taker) restart() {
	t.rest = 0
}

// roller is the fingerprint of the last bytes, as many as a window has, of a row that grows.
type roller struct {
	taker
	window int
	gone   table // the window's first byte, as it stands in the fingerprint
}

func newRoller(p uint64, window int) roller {
	first, _ := poly.Power(byteLen*(window-1), p)
	return roller{taker: newTaker(p), window: window, gone: products(p, first)}
}

// roll goes on by the row's last byte, which is new. The row holds the window, so that the roller needn't keep it.
func (r *roller) roll(row []byte) {
	last := len(row) - 1
	if first := last - r.window; first >= 0 {
		r.rest ^= r.gone[row[first]]
	}
	r.take(row[last])
}

// Print is a fingerprint.
func Print(p uint64, parts ...[]byte) (uint64, error) {
	if p == 0 {
		return 0, api.ErrPoly
	}
	// A taker needs degree 8, and the remainder by a multiple of p has the same remainder by p.
	t := newTaker(p << max(byteLen-poly.Deg(p), 0))
	for _, part := range parts {
		for _, b := range part {
			t.take(b)
		}
	}
	return poly.Mod(0, t.rest, p)
}
