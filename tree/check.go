package tree

import (
	"amphora/api"
	"amphora/path"
)

const maxMode = 0o7777

// checked is what a check of the next entry needs of those ahead of it, which are a tree.
type checked struct {
	kinds map[string]int // of their paths
	last  string         // the last one's path
	size  int            // of all their Data
}

// add tells what is wrong with the next entry, if something is; else it is one of those ahead from now on.
func (c *checked) add(e api.Entry) error {
	if !path.Good(e.Path) {
		return api.ErrPath
	}
	if !good(e) || !c.fits(e) {
		return api.ErrTree
	}
	c.size += len(e.Data)
	if c.size > api.MaxTree {
		return api.ErrLarge
	}
	c.kinds[e.Path] = e.Kind
	c.last = e.Path
	return nil
}

// fits tells whether a good entry may stand behind those ahead. A path of none has the kind 0, which is none.
func (c *checked) fits(e api.Entry) bool {
	if path.Compare(c.last, e.Path) >= 0 { // the empty text, which stands for none, comes ahead of each path
		return false
	}
	if above, ok := path.Parent(e.Path); ok && c.kinds[above] != api.KDir {
		return false
	}
	return e.Kind != api.KHard || c.kinds[e.Link] == api.KFile
}

// good tells whether an entry whose Path is a path is a good one.
func good(e api.Entry) bool {
	if !within(e.Mode, 0, maxMode) || !within(e.Uid, 0, api.MaxMeta) || !within(e.Gid, 0, api.MaxMeta) || !within(e.Time, -api.MaxMeta, api.MaxMeta) {
		return false
	}
	switch e.Kind {
	case api.KDir:
		return e.Link == "" && len(e.Data) == 0
	case api.KFile:
		return e.Link == "" && len(e.Data) <= api.MaxData
	case api.KLink:
		return path.Text(e.Link, api.MaxPath) && len(e.Data) == 0
	case api.KHard:
		return path.Good(e.Link) && len(e.Data) == 0 && e.Mode == 0 && e.Uid == 0 && e.Gid == 0 && e.Time == 0
	}
	return false
}

func within(n, least, most int) bool { return least <= n && n <= most }
