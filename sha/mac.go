package sha

import "amphora/api"

// Keyed takes bytes, under a key. Its Hasher took the inner block of the key ahead of all that was written.
type Keyed struct {
	Hasher
	outer Hasher // took the outer block of the key
}

// Mac is HMAC of parts.
func Mac(key []byte, parts ...[]byte) [32]byte {
	k := NewMac(key)
	k.Write(parts...)
	return k.Sum()
}

// NewMac is a Keyed to which nothing was written.
func NewMac(key []byte) *Keyed {
	laid := lay(key)
	k := &Keyed{Hasher: *New(), outer: *New()}
	k.take(laid.masked(0x36))
	k.outer.take(laid.masked(0x5c))
	return k
}

// lay is the key as a block, which a shorter key leaves 0 behind it.
func lay(key []byte) block {
	var b block
	if len(key) > blockLen {
		short := Sum(key)
		key = short[:]
	}
	copy(b[:], key)
	return b
}

func (b *block) masked(with byte) []byte {
	out := make([]byte, blockLen)
	for i := range blockLen {
		out[i] = b[i] ^ with
	}
	return out
}

// Write writes parts.
func (k *Keyed) Write(parts ...[]byte) {
	if k == nil {
		return
	}
	k.Hasher.Write(parts...)
}

// Len is how many bytes were written.
func (k *Keyed) Len() int {
	if k == nil {
		return 0
	}
	return k.length - blockLen // but the key's block
}

// Sum is HMAC of what was written.
func (k *Keyed) Sum() [32]byte {
	if k == nil {
		return [32]byte{}
	}
	inner := k.Hasher.Sum()
	end := k.outer // kept as it is, for the next Sum
	end.take(inner[:])
	return end.Sum()
}

// Derive is HKDF.
func Derive(salt, secret, info []byte, n int) ([]byte, error) {
	if n < 0 || n > api.MaxDerive {
		return nil, api.ErrRange
	}
	prk := Mac(salt, secret) // no salt and 32 bytes 0 are laid into the same block
	out := make([]byte, 0, n)
	var last []byte
	for i := byte(1); len(out) < n; i++ { // MaxDerive is reached with 255
		t := Mac(prk[:], last, info, []byte{i})
		last = t[:]
		out = append(out, t[:min(len(t), n-len(out))]...)
	}
	return out, nil
}
