package ustar_test

import (
	"fmt"
	"math/rand/v2"
	"strconv"
	"strings"

	"amphora/api"
)

// A second account, in the words of the chapter: a block is its fields, one behind the other, each / of a path is tried, and a block is read field by field, each in its form.

const (
	maxId   = 2097151
	maxTime = 8589934591
)

func plainClean(s string) bool {
	for _, c := range []byte(s) {
		if c < 1 || c > 127 {
			return false
		}
	}
	return true
}

func plainLink(l string) bool { return len(l) >= 1 && len(l) <= 100 && plainClean(l) }

func plainParts(p string) (prefix, name string, ok bool) {
	if !plainClean(p) {
		return "", "", false
	}
	if len(p) >= 1 && len(p) <= 100 {
		return "", p, true
	}
	for at := range len(p) {
		ahead, behind := p[:at], p[at+1:]
		if p[at] == '/' && len(ahead) >= 1 && len(ahead) <= 155 && len(behind) >= 1 && len(behind) <= 100 {
			return ahead, behind, true
		}
	}
	return "", "", false
}

func plainFits(h api.Header) bool {
	_, _, path := plainParts(h.Path)
	ids := min(h.Mode, h.Uid, h.Gid) >= 0 && max(h.Mode, h.Uid, h.Gid) <= maxId
	long := min(h.Size, h.Time) >= 0 && max(h.Size, h.Time) <= maxTime
	kind := h.Type == '0' || h.Type == '1' || h.Type == '2' || h.Type == '5' || h.Type == 'x'
	link := h.Link == ""
	if h.Type == '1' || h.Type == '2' {
		link = plainLink(h.Link)
	}
	size := h.Size == 0 || h.Type == '0' || h.Type == 'x'
	return path && ids && long && kind && link && size
}

func plainText(s string, size int) string { return s + strings.Repeat("\x00", size-len(s)) }

// plainSum is the sum of a block's bytes but for the eight of the sum, which are blanks.
func plainSum(b string) int {
	sum := 8 * 32
	for at, c := range []byte(b) {
		if at < 148 || at > 155 {
			sum += int(c)
		}
	}
	return sum
}

// mended is a block with the right sum.
func mended(b string) string {
	return b[:148] + fmt.Sprintf("%06o\x00 ", plainSum(b)) + b[156:]
}

// plainBlock is the block of a header that fits.
func plainBlock(h api.Header) string {
	prefix, name, _ := plainParts(h.Path)
	return mended(strings.Join([]string{
		plainText(name, 100),
		fmt.Sprintf("%07o\x00%07o\x00%07o\x00", h.Mode, h.Uid, h.Gid),
		fmt.Sprintf("%011o\x00%011o\x00", h.Size, h.Time),
		"the sum.",
		string(rune(h.Type)),
		plainText(h.Link, 100),
		"ustar", "\x00", "00",
		plainText("", 64),
		"0000000\x00", "0000000\x00",
		plainText(prefix, 155),
		plainText("", 12),
	}, ""))
}

// fields reads a block's fields, and tells whether all so far had their form.
type fields struct {
	block string
	good  bool
}

func (f *fields) text(from, to int) string {
	s := strings.TrimRight(f.block[from:to+1], "\x00")
	f.good = f.good && plainClean(s)
	return s
}

// octal is the number of digits from one byte to another; behind them stands the end that is told.
func (f *fields) octal(from, to int, end string) int {
	digits, ok := strings.CutSuffix(f.block[from:to+1], end)
	n, err := strconv.ParseUint(digits, 8, 64)
	f.good = f.good && ok && err == nil
	return int(n)
}

func (f *fields) just(from, to int, what string) { f.good = f.good && f.block[from:to+1] == what }

func plainDecode(b []byte) (api.Header, bool) {
	if len(b) != 512 {
		return api.Header{}, false
	}
	f := &fields{string(b), true}
	name, prefix := f.text(0, 99), f.text(345, 499)
	h := api.Header{
		Path: name,
		Mode: f.octal(100, 107, "\x00"), Uid: f.octal(108, 115, "\x00"), Gid: f.octal(116, 123, "\x00"),
		Size: f.octal(124, 135, "\x00"), Time: f.octal(136, 147, "\x00"),
		Type: b[156],
		Link: f.text(157, 256),
	}
	if prefix != "" {
		h.Path = prefix + "/" + name
	}
	sum := f.octal(148, 155, "\x00 ")
	f.just(257, 264, "ustar\x0000")
	f.just(265, 328, strings.Repeat("\x00", 64))
	f.just(329, 344, strings.Repeat("0000000\x00", 2))
	f.just(500, 511, strings.Repeat("\x00", 12))
	ahead, behind, _ := plainParts(h.Path)
	if !f.good || !plainFits(h) || sum != plainSum(f.block) || ahead != prefix || behind != name {
		return api.Header{}, false
	}
	return h, true
}

func tell(h api.Header) string {
	return fmt.Sprintf("path %.300q mode %d uid %d gid %d size %d time %d type %q link %.120q", h.Path, h.Mode, h.Uid, h.Gid, h.Size, h.Time, h.Type, h.Link)
}

func pick[T any](r *rand.Rand, of ...T) T { return of[r.IntN(len(of))] }

// rep is n times the same text.
func rep(s string, n int) string { return strings.Repeat(s, n) }

// someHeaders is a header of each type, with fields at the edges and within.
func someHeaders() []api.Header {
	return []api.Header{
		{Path: "a", Mode: 420, Type: '0'},
		{Path: rep("n", 100), Mode: maxId, Uid: maxId, Gid: maxId, Size: maxTime, Time: maxTime, Type: '0'},
		{Path: rep("p", 155) + "/" + rep("n", 100), Mode: 1, Uid: 8, Gid: 64, Size: 512, Time: 4096, Type: 'x'},
		{Path: rep("dir/", 40) + "name", Mode: 511, Uid: 1000, Gid: 100, Time: 1700000000, Type: '2', Link: rep("l", 100)},
		{Path: "d/f", Type: '1', Link: "d/g"},
		{Path: "d", Mode: 493, Uid: 7, Time: 1, Type: '5'},
		{Path: "pax", Size: 5, Type: '0'},
		{Path: "pax/0", Size: 11, Type: 'x'},
	}
}

// randomText is of few bytes that matter, most of them /, and of any length round the edges.
func randomText(r *rand.Rand, slashes int) string {
	var out strings.Builder
	for range pick(r, 1, 2, 99, 100, 101, 102, 103, 155, 156, 157, 254, 255, 256, 257, r.IntN(300)) {
		if r.IntN(100) < slashes {
			out.WriteByte('/')
		} else {
			out.WriteByte(pick[byte](r, 1, 'a', '.', ' ', 127))
		}
	}
	return out.String()
}

// randomHeader often fits, and nearly does else.
func randomHeader(r *rand.Rand) api.Header {
	h := api.Header{
		Path: randomText(r, pick(r, 1, 3, 50, 95)),
		Mode: pick(r, 0, 420, maxId), Uid: pick(r, 0, 8, maxId), Gid: pick(r, 0, 63, maxId),
		Time: pick(r, 0, 1700000000, maxTime),
		Type: pick[byte](r, '0', '1', '2', '5', 'x'),
	}
	switch h.Type {
	case '1', '2':
		h.Link = randomText(r, 5)
	case '0', 'x':
		h.Size = pick(r, 0, 1, 65536, maxTime)
	}
	switch r.IntN(24) {
	case 0:
		h.Path += pick(r, "\x00", "\x80", "é", "\xff", "/")
	case 1:
		h.Link = pick(r, "", "x", "\x00", "é", rep("l", 101))
	case 2:
		*pick(r, &h.Mode, &h.Uid, &h.Gid) = pick(r, -1, maxId+1)
	case 3:
		*pick(r, &h.Size, &h.Time) = pick(r, -1, 1, maxTime+1)
	case 4:
		h.Type = byte(r.IntN(256))
	}
	return h
}
