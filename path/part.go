package path

import (
	"iter"
	"strings"

	"amphora/api"
)

const slash = "/"

// pieces is what stands between the / of a text, empty pieces too: the empty text is one.
func pieces(s string) iter.Seq[string] {
	return func(yield func(string) bool) {
		rest, more := s, true
		for more {
			var piece string
			piece, rest, more = strings.Cut(rest, slash)
			if !yield(piece) {
				return
			}
		}
	}
}

// looker is a closure that looks at what a path should be made of, one after the other: whether this is a part, and the path no longer than it may be so far. Behind a no it isn't asked again.
func looker() func(part string) bool {
	size := -len(slash) // none stands ahead of the first part
	return func(part string) bool {
		size += len(slash) + len(part)
		return size <= api.MaxPath && goodPart(part)
	}
}

func goodPart(s string) bool {
	return Text(s, api.MaxPart) && !strings.Contains(s, slash) && s != "." && s != ".."
}
