package wire

import "amphora/api"

const (
	numLen    = 8 // bytes of a long number
	maxVarLen = 9 // bytes of the greatest short number: its 63 bits are nine digits
	lengthLen = 4 // bytes of MaxField as a short number: no field's length has more
)

// Var is a short number.
func Var(n int) []byte {
	if n < 0 {
		return nil
	}
	return addVar(nil, n)
}

// addVar puts the short number n, which is 0 or more, behind out.
func addVar(out []byte, n int) []byte {
	for n >= 0x80 {
		out = append(out, byte(n)|0x80)
		n >>= 7
	}
	return append(out, byte(n))
}

// ReadVar reads a short number.
func ReadVar(b []byte) (int, int, error) {
	n := 0
	for i := range min(len(b), maxVarLen) {
		digit := b[i] & 0x7f
		n |= int(digit) << (7 * i)
		if b[i] != digit {
			continue
		}
		if digit == 0 && i > 0 { // the same number has a shorter form
			break
		}
		return n, i + 1, nil
	}
	return 0, 0, api.ErrWire
}

// Num is a long number.
func Num(n int) []byte {
	out := make([]byte, numLen)
	for i := range out {
		out[i] = byte(n >> (8 * (numLen - 1 - i)))
	}
	return out
}

// ReadNum reads a long number.
func ReadNum(b []byte) (int, error) {
	if len(b) != numLen {
		return 0, api.ErrWire
	}
	n := 0
	for _, c := range b {
		n = n<<8 | int(c)
	}
	return n, nil
}
