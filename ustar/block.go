package ustar

import (
	"bytes"
	"strings"
	"unicode"

	"amphora/api"
)

const (
	blockLen    = 512
	nameLen     = 100
	linkLen     = 100
	prefixLen   = 155
	shortDigits = 7
	longDigits  = 11
	sumDigits   = 6
)

// Where the fields begin.
const (
	nameAt    = 0
	modeAt    = 100
	uidAt     = 108
	gidAt     = 116
	sizeAt    = 124
	timeAt    = 136
	sumAt     = 148
	typeAt    = 156
	linkAt    = 157
	magicAt   = 257
	devicesAt = 329
	prefixAt  = 345
)

const (
	slash   = "/"
	magic   = "ustar\x0000"
	devices = "0000000\x000000000\x00"
	noSum   = "        " // what the sum counts in its own place
)

// number is an octal field: where it begins, its digits, and whose value it is.
type number struct {
	at     int
	digits int
	value  *int
}

// numbers is the octal fields of a header's own numbers.
func numbers(h *api.Header) [5]number {
	return [5]number{
		{modeAt, shortDigits, &h.Mode},
		{uidAt, shortDigits, &h.Uid},
		{gidAt, shortDigits, &h.Gid},
		{sizeAt, longDigits, &h.Size},
		{timeAt, longDigits, &h.Time},
	}
}

func fitsOctal(n, digits int) bool { return 0 <= n && n < 1<<(3*digits) }

// putOctal fills b with the last digits of n.
func putOctal(b []byte, n int) {
	for at := len(b) - 1; at >= 0; at-- {
		b[at] = '0' + byte(n&7)
		n >>= 3
	}
}

func octal(b []byte) int {
	n := 0
	for _, c := range b {
		n = n<<3 | int(c&7)
	}
	return n
}

// putSum puts the sum of all else of a block in its place.
func putSum(b []byte) {
	place := b[sumAt : sumAt+len(noSum)]
	copy(place, noSum)
	sum := 0
	for _, c := range b {
		sum += int(c)
	}
	putOctal(place[:sumDigits], sum)
	place[sumDigits] = 0
}

// text is what a text field holds.
func text(field []byte) string {
	held, _, _ := bytes.Cut(field, []byte{0})
	return string(held)
}

// parted is a path's prefix and name, and whether it is short enough for them.
func parted(p string) (prefix, name string, ok bool) {
	if len(p) <= nameLen {
		return "", p, p != ""
	}
	if len(p) > prefixLen+len(slash)+nameLen {
		return "", "", false
	}
	first := max(1, len(p)-nameLen-len(slash)) // sooner there is no prefix, or the name is too long
	behind := min(prefixLen+1, len(p)-1)       // from here on the prefix is too long, or there is no name
	at := strings.Index(p[first:behind], slash)
	if at < 0 {
		return "", "", false
	}
	at += first
	return p[:at], p[at+len(slash):], true
}

// ascii tells whether each byte is from 1 to 127. Rune by rune, a byte beyond ASCII is part of a greater rune, or of none, for which a greater one is given.
func ascii(s string) bool {
	for _, r := range s {
		if r < 1 || r > unicode.MaxASCII {
			return false
		}
	}
	return true
}
