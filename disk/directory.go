package disk

import (
	"maps"
	"slices"

	"amphora/api"
)

// file has no name of its own: so a change that is made anew behind a crash finds the bytes that were written since.
type file struct {
	data   []byte
	synced int // how many of the first bytes a crash can't take
}

func (f *file) sync() { f.synced = len(f.data) }

// crash leaves at most extra of the bytes that weren't synced.
func (f *file) crash(extra int) {
	loose := len(f.data) - f.synced
	f.data = f.data[:f.synced+min(max(extra, 0), loose)]
}

// change takes the name from away and gives its file, or else the made one, the name to. The empty text, which is no file's name, stands for none: a Create has no from, a Remove no to.
type change struct {
	from, to string
	made     *file
}

// directory says which file a name has. No file has two names in it.
type directory map[string]*file

// apply serves the steps and the crashes alike, so that a change is made anew just as it was made.
func (d directory) apply(c change) {
	f := c.made
	if c.from != "" {
		f = d[c.from]
		delete(d, c.from)
	}
	if c.to != "" {
		d[c.to] = f
	}
}

func (d directory) has(name string) bool { return d[name] != nil }

func (d directory) full() bool { return len(d) >= api.MaxFiles }

func (d directory) names() []string { return slices.Sorted(maps.Keys(d)) }

func (d directory) used() int {
	n := 0
	for _, f := range d {
		n += len(f.data)
	}
	return n
}

func (d directory) copied() directory { return maps.Clone(d) }

func goodName(name string) bool {
	if len(name) < 1 || len(name) > api.MaxFileName {
		return false
	}
	for i := range len(name) {
		if b := name[i]; b < 0x21 || b > 0x7e || b == '/' {
			return false
		}
	}
	return true
}
