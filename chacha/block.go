package chacha

import "math/bits"

const blockLen = 64

// words is a block in the making.
type words [blockLen / 4]uint32

// place is where the counter stands among the words.
const place = 12

// Block is a block.
func Block(key [32]byte, counter uint32, nonce [12]byte) [64]byte {
	first := start(key, nonce)
	return first.block(counter)
}

// start is what every block of a key and a nonce begins as, but for the counter.
func start(key [32]byte, nonce [12]byte) words {
	w := words{0x61707865, 0x3320646e, 0x79622d32, 0x6b206574}
	for i := range 8 {
		w[4+i] = word(key[4*i:])
	}
	for i := range 3 {
		w[place+1+i] = word(nonce[4*i:])
	}
	return w
}

func word(b []byte) uint32 {
	return uint32(b[0]) | uint32(b[1])<<8 | uint32(b[2])<<16 | uint32(b[3])<<24
}

// block is the block of a counter; the words stay as they are, for the next one.
func (w *words) block(counter uint32) [blockLen]byte {
	first := *w
	first[place] = counter
	mixed := first
	for range 10 {
		mixed.round()
	}
	var out [blockLen]byte
	for i := range first {
		x := mixed[i] + first[i]
		out[4*i] = byte(x)
		out[4*i+1] = byte(x >> 8)
		out[4*i+2] = byte(x >> 16)
		out[4*i+3] = byte(x >> 24)
	}
	return out
}

// round is a double round: the columns of the words, if four stand in a row, then the diagonals.
func (w *words) round() {
	w.quarter(0, 4, 8, 12)
	w.quarter(1, 5, 9, 13)
	w.quarter(2, 6, 10, 14)
	w.quarter(3, 7, 11, 15)
	w.quarter(0, 5, 10, 15)
	w.quarter(1, 6, 11, 12)
	w.quarter(2, 7, 8, 13)
	w.quarter(3, 4, 9, 14)
}

func (w *words) quarter(i, j, k, l int) {
	a, b, c, d := w[i], w[j], w[k], w[l]
	a += b
	d = bits.RotateLeft32(d^a, 16)
	c += d
	b = bits.RotateLeft32(b^c, 12)
	a += b
	d = bits.RotateLeft32(d^a, 8)
	c += d
	b = bits.RotateLeft32(b^c, 7)
	w[i], w[j], w[k], w[l] = a, b, c, d
}
