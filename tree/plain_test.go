package tree_test

import (
	"fmt"
	"math/rand/v2"
	"slices"
	"strings"

	"amphora/api"
	"amphora/path"
)

// A second account, in the words of the chapter: each entry is held against all those ahead of it, and entries are the same, if they are told by one text.

func tell(t []api.Entry) string {
	var out strings.Builder
	for _, e := range t {
		fmt.Fprintf(&out, "%q %d %d %d %d %d %q %d:%s\n", e.Path, e.Kind, e.Mode, e.Uid, e.Gid, e.Time, e.Link, len(e.Data), e.Data)
	}
	return out.String()
}

func names(t []api.Entry) string {
	var out []string
	for _, e := range t {
		out = append(out, e.Path)
	}
	return strings.Join(out, " ")
}

func clone(t []api.Entry) []api.Entry {
	var out []api.Entry
	for _, e := range t {
		e.Data = append([]byte{}, e.Data...)
		out = append(out, e)
	}
	return out
}

func plainOrder(a, b api.Entry) int {
	return slices.Compare(strings.Split(a.Path, "/"), strings.Split(b.Path, "/"))
}

// plainParent is the empty text for a path of one part.
func plainParent(p string) string { return p[:max(strings.LastIndex(p, "/"), 0)] }

func plainGood(e api.Entry) bool {
	const most = 1099511627776
	if e.Mode < 0 || e.Mode > 4095 || min(e.Uid, e.Gid) < 0 || max(e.Uid, e.Gid, e.Time) > most || e.Time < -most {
		return false
	}
	noLink, noData := e.Link == "", string(e.Data) == ""
	switch e.Kind {
	case 1:
		return noLink && noData
	case 2:
		return noLink && len(e.Data) < 65537
	case 3:
		return noData && path.Text(e.Link, 400)
	}
	return e.Kind == 4 && noData && path.Good(e.Link) && [4]int{e.Mode, e.Uid, e.Gid, e.Time} == [4]int{}
}

func has(t []api.Entry, p string, kind int) bool {
	return slices.ContainsFunc(t, func(e api.Entry) bool { return e.Path == p && e.Kind == kind })
}

func plainFault(ahead []api.Entry, e api.Entry) error {
	if !path.Good(e.Path) {
		return api.ErrPath
	}
	size := len(e.Data)
	for _, a := range ahead {
		size += len(a.Data)
	}
	above := plainParent(e.Path)
	switch {
	case !plainGood(e), len(ahead) > 0 && plainOrder(ahead[len(ahead)-1], e) >= 0, above != "" && !has(ahead, above, 1), e.Kind == 4 && !has(ahead, e.Link, 2):
		return api.ErrTree
	case size > 1048576:
		return api.ErrLarge
	}
	return nil
}

func plainCheck(t []api.Entry) (int, error) {
	if len(t) > 200 {
		return len(t), api.ErrMany
	}
	for at, e := range t {
		if err := plainFault(t[:at], e); err != nil {
			return at, err
		}
	}
	return -1, nil
}

func plainBuild(entries []api.Entry) ([]api.Entry, error) {
	if len(entries) > 200 {
		return nil, api.ErrMany
	}
	var t []api.Entry
	for _, e := range entries {
		p, err := path.Normal(e.Path)
		link, wrong := e.Link, error(nil)
		if e.Kind == 4 {
			link, wrong = path.Normal(e.Link)
		}
		if err != nil || wrong != nil {
			return nil, api.ErrPath
		}
		e.Path, e.Link = p, link
		t = append(t, e)
	}
	slices.SortFunc(t, plainOrder)
	for at := 1; at < len(t); at++ {
		if t[at].Path == t[at-1].Path {
			return nil, api.ErrTree
		}
	}
	for at := 0; at < len(t); at++ { // what is put at the end is looked at too
		above := plainParent(t[at].Path)
		if above != "" && !slices.ContainsFunc(t, func(e api.Entry) bool { return e.Path == above }) {
			t = append(t, api.Entry{Path: above, Kind: 1, Mode: 493})
		}
	}
	slices.SortFunc(t, plainOrder)
	if _, err := plainCheck(t); err != nil {
		return nil, err
	}
	return t, nil
}

// plainBelow is by the parts of texts that are paths.
func plainBelow(p string, e api.Entry) bool {
	a, b := strings.Split(p, "/"), strings.Split(e.Path, "/")
	return path.Good(p) && path.Good(e.Path) && len(b) > len(a) && slices.Equal(a, b[:len(a)])
}

func plainWalk(t []api.Entry, p string) []api.Entry {
	return slices.DeleteFunc(slices.Clone(t), func(e api.Entry) bool { return p != "" && e.Path != p && !plainBelow(p, e) })
}

func plainChildren(t []api.Entry, p string) []string {
	var out []string
	for _, e := range t {
		if path.Good(e.Path) && plainParent(e.Path) == p {
			out = append(out, e.Path[strings.LastIndex(e.Path, "/")+1:])
		}
	}
	return out
}

func file(p, data string) api.Entry {
	return api.Entry{Path: p, Kind: api.KFile, Mode: 420, Data: []byte(data)}
}

func dir(p string) api.Entry          { return api.Entry{Path: p, Kind: api.KDir, Mode: 493} }
func link(p, to string) api.Entry     { return api.Entry{Path: p, Kind: api.KLink, Mode: 511, Link: to} }
func hard(p, to string) api.Entry     { return api.Entry{Path: p, Kind: api.KHard, Link: to} }
func list(t ...api.Entry) []api.Entry { return t }

// full is so many files of MaxData bytes each.
func full(n int) []api.Entry {
	var out []api.Entry
	for i := range n {
		out = append(out, file(fmt.Sprintf("f%03d", i), strings.Repeat("x", 65536)))
	}
	return out
}

// deep is a path of so many parts.
func deep(n int) string { return strings.TrimSuffix(strings.Repeat("a/", n), "/") }

func pick[T any](r *rand.Rand, of ...T) T { return of[r.IntN(len(of))] }

// parts come on either side of a / byte by byte.
var parts = []string{"a", "a.", "a0", "b", "é", "\x01", "...", "a b"}

// randomTree is a tree of a few entries of all kinds, with numbers up to the edges.
func randomTree(r *rand.Rand) []api.Entry {
	const most = 1 << 40
	dirs := []string{""}
	var t []api.Entry
	for range r.IntN(14) {
		p := pick(r, dirs...) + pick(r, parts...)
		if slices.ContainsFunc(t, func(e api.Entry) bool { return e.Path == p }) {
			continue
		}
		e := api.Entry{Path: p, Kind: pick(r, 1, 1, 2, 2, 2, 3, 4), Mode: pick(r, 0, 420, 4095), Uid: pick(r, 0, 1000, most), Gid: pick(r, 0, 7, most), Time: pick(r, 0, -most, 12345, most)}
		switch e.Kind {
		case api.KDir:
			dirs = append(dirs, p+"/")
		case api.KFile:
			e.Data = []byte(strings.Repeat(p, r.IntN(3)))
		case api.KLink:
			e.Link = pick(r, p, "..", "/x//y", strings.Repeat("l", 400))
		}
		t = append(t, e)
	}
	slices.SortFunc(t, plainOrder)
	for at := range t {
		if t[at].Kind == api.KHard {
			t[at] = randomHard(r, t[:at], t[at].Path)
		}
	}
	return t
}

// randomHard is a link to one of the files ahead; without one a directory.
func randomHard(r *rand.Rand, ahead []api.Entry, p string) api.Entry {
	files := slices.DeleteFunc(slices.Clone(ahead), func(e api.Entry) bool { return e.Kind != api.KFile })
	if len(files) == 0 {
		return dir(p)
	}
	return hard(p, pick(r, files...).Path)
}

// spoil changes a thing or two, so that the list is nearly a tree, or still one.
func spoil(r *rand.Rand, t []api.Entry) []api.Entry {
	t = clone(t)
	if len(t) == 0 {
		return t
	}
	e, other := &t[r.IntN(len(t))], &t[r.IntN(len(t))]
	switch r.IntN(12) {
	case 0:
		e.Path = pick(r, "", "/", "a/", "a//b", ".", "a/../b", "\xff", strings.Repeat("a", 121), deep(201))
	case 1:
		e.Path = pick(r, "a", "b", "a/b", "a./b", "z/z")
	case 2:
		e.Kind = pick(r, -1, 0, 1, 2, 3, 4, 5)
	case 3:
		e.Mode = pick(r, -1, 0, 1, 4095, 4096)
	case 4:
		e.Uid = pick(r, -1, 0, 1<<40, 1<<40+1)
	case 5:
		e.Gid = pick(r, -1, 0, 1<<40, 1<<40+1)
	case 6:
		e.Time = pick(r, -1<<40-1, -1<<40, 0, 1<<40, 1<<40+1)
	case 7:
		e.Link = pick(r, "", "a", "b", "a/b", e.Path, other.Path, "../x", "\xff", strings.Repeat("l", 401))
	case 8:
		e.Data = pick(r, nil, []byte{}, []byte("x"), make([]byte, 65536), make([]byte, 65537))
	case 9:
		*e, *other = *other, *e
	case 10:
		e.Path = other.Path
	case 11:
		at := r.IntN(len(t))
		t = slices.Delete(t, at, at+1)
	}
	return t
}

// unnormal is a text that means the same path.
func unnormal(r *rand.Rand, p string) string {
	for range r.IntN(3) {
		at := 0
		if cut := strings.LastIndex(p, "/"); cut >= 0 && r.IntN(2) == 0 {
			at = cut + 1
		}
		p = p[:at] + pick(r, "./", "/", "x/../", "y/z/../../") + p[at:]
	}
	return p + pick(r, "", "", "/", "/.", "//", "/x/..")
}

// mix is the entries in any order.
func mix(r *rand.Rand, t []api.Entry) []api.Entry {
	out := clone(t)
	r.Shuffle(len(out), func(i, j int) { out[i], out[j] = out[j], out[i] })
	return out
}
