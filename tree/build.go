package tree

import (
	"slices"

	"amphora/api"
	"amphora/path"
)

const dirMode = 0o755 // of directories that nobody handed in

// normal is a list of the same entries, with what their paths, and the Links of hard links, mean. Their Data are the same memory.
func normal(entries []api.Entry) ([]api.Entry, error) {
	t := slices.Clone(entries)
	for at := range t {
		e := &t[at]
		var err error
		if e.Path, err = path.Normal(e.Path); err != nil {
			return nil, err
		}
		if e.Kind != api.KHard {
			continue
		}
		if e.Link, err = path.Normal(e.Link); err != nil {
			return nil, err
		}
	}
	return t, nil
}

func kindsOf(t []api.Entry) map[string]int {
	kinds := map[string]int{}
	for _, e := range t {
		kinds[e.Path] = e.Kind
	}
	return kinds
}

// missing is the directories that t's paths need and that aren't among its own, whose kinds are given; they are put among these.
func missing(t []api.Entry, kinds map[string]int) []api.Entry {
	var dirs []api.Entry
	for _, e := range t {
		for above, ok := path.Parent(e.Path); ok; above, ok = path.Parent(above) {
			if _, there := kinds[above]; there { // and so are its parents, or they are looked for by themselves
				break
			}
			kinds[above] = api.KDir
			dirs = append(dirs, api.Entry{Path: above, Kind: api.KDir, Mode: dirMode})
		}
	}
	return dirs
}
