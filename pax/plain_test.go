package pax_test

import (
	"fmt"
	"math/rand/v2"
	"regexp"
	"slices"
	"strings"

	"amphora/api"
)

// A second account, in the words of the chapter: all lengths are tried for a line, from the least one on, and all beginnings of bytes are tried as a line when they are read.

const maxRecords = 65536

func plainKeyword(s string) bool {
	for _, c := range []byte(s) {
		if c < 0x21 || c > 0x7e || c == '=' {
			return false
		}
	}
	return len(s) >= 1 && len(s) <= 100
}

func plainLine(r api.Record) (string, bool) {
	if !plainKeyword(r.Key) {
		return "", false
	}
	pair := " " + r.Key + "=" + r.Value + "\n"
	for size := len(pair); size <= maxRecords; size++ {
		if line := fmt.Sprint(size) + pair; len(line) == size {
			return line, true
		}
	}
	return "", false
}

func plainEncode(records []api.Record) (string, bool) {
	out := ""
	for at, r := range records {
		line, ok := plainLine(r)
		if !ok || at > 0 && records[at-1].Key >= r.Key {
			return "", false
		}
		if out += line; len(out) > maxRecords {
			return "", false
		}
	}
	return out, true
}

var lineForm = regexp.MustCompile(`(?s)^[0-9]+ ([^ =]+)=(.*)\n$`)

// plainReadings is all lists of records whose lines, one behind the other, the text is.
func plainReadings(s string) [][]api.Record {
	if s == "" {
		return [][]api.Record{nil}
	}
	var out [][]api.Record
	for behind := range len(s) {
		if s[behind] != '\n' {
			continue
		}
		m := lineForm.FindStringSubmatch(s[:behind+1])
		if m == nil {
			continue
		}
		r := api.Record{Key: m[1], Value: m[2]}
		if line, ok := plainLine(r); !ok || line != s[:behind+1] {
			continue
		}
		for _, more := range plainReadings(s[behind+1:]) {
			out = append(out, append([]api.Record{r}, more...))
		}
	}
	return out
}

// plainDecode is the one list of records in form whose lines the text is.
func plainDecode(s string) ([]api.Record, bool) {
	readings := slices.DeleteFunc(plainReadings(s), func(l []api.Record) bool {
		_, ok := plainEncode(l)
		return !ok
	})
	switch len(readings) {
	case 0:
		return nil, false
	case 1:
		return readings[0], true
	}
	panic("more readings than one")
}

func plainFind(records []api.Record, key string) (string, bool) {
	at := slices.IndexFunc(records, func(r api.Record) bool { return r.Key == key })
	if at < 0 {
		return "", false
	}
	return records[at].Value, true
}

func pick[T any](r *rand.Rand, of ...T) T { return of[r.IntN(len(of))] }

// rep is n times the same text.
func rep(s string, n int) string { return strings.Repeat(s, n) }

// someRecords is records in form, with all that a value may hold.
func someRecords() []api.Record {
	all := make([]byte, 256)
	for c := range all {
		all[c] = byte(c)
	}
	return []api.Record{
		{Key: "!", Value: "9 path=x\n"}, {Key: "AMPHORA.all", Value: string(all)}, {Key: "comment", Value: ""}, {Key: "gid", Value: "2097152"},
		{Key: "linkpath", Value: "é"}, {Key: "linkpath2", Value: "="}, {Key: "mtime", Value: "-1"}, {Key: "path", Value: "a\nb=c\n"}, {Key: rep("~", 100), Value: rep("v", 1000)},
	}
}

// randomValue is of few bytes that matter, and often of a length round an edge.
func randomValue(r *rand.Rand) string {
	var out strings.Builder
	for range pick(r, 0, 1, 4, 5, 6, 88, 89, 90, 91, 92, 93, r.IntN(30), r.IntN(200)) {
		out.WriteString(pick(r, "\n", " ", "=", "0", "1", "9", "a", "\x00", "\xff", "é", "5 a=\n"))
	}
	return out.String()
}

// randomRecords is often in form, and nearly so else.
func randomRecords(r *rand.Rand) []api.Record {
	var out []api.Record
	for range r.IntN(6) {
		key := pick(r, "a", "b", "aa", "a.b", "!", "~", "gid", "path", "mtime", rep("k", r.IntN(99)+1), rep("k", 100))
		out = append(out, api.Record{Key: key, Value: randomValue(r)})
	}
	slices.SortFunc(out, func(a, b api.Record) int { return strings.Compare(a.Key, b.Key) })
	if r.IntN(4) > 0 {
		out = slices.CompactFunc(out, func(a, b api.Record) bool { return a.Key == b.Key })
	}
	if len(out) > 0 && r.IntN(6) == 0 {
		x, y := r.IntN(len(out)), r.IntN(len(out))
		switch r.IntN(3) {
		case 0:
			out[x], out[y] = out[y], out[x]
		case 1:
			out[x].Key += pick(r, "=", " ", "\x7f", "\x80", "é", "\n", "\x00", rep("k", 100))
		case 2:
			out[x].Key = ""
		}
	}
	return out
}
