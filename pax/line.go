package pax

import (
	"strconv"
	"strings"

	"amphora/api"
)

const maxKeyword = 100

// What stands in a line beside its length, its keyword and its value.
const (
	blank  = " "
	equals = "="
	end    = "\n"
)

func keyword(s string) bool {
	if s == "" || len(s) > maxKeyword {
		return false
	}
	for at := range len(s) {
		if c := s[at]; c < '!' || c > '~' || c == '=' {
			return false
		}
	}
	return true
}

// lineLen is the length of a line, which counts its own digits: the fewest digits that do are taken.
func lineLen(key, value string) int {
	size := 1 + len(blank) + len(key) + len(equals) + len(value) + len(end)
	for beyond := 10; size >= beyond; beyond *= 10 { // one digit more is needed, and counts too
		size++
	}
	return size
}

func laid(size int, key, value string) string {
	return strconv.Itoa(size) + blank + key + equals + value + end
}

// cutLine cuts off what seems to be the first line, by the length that it tells of itself. A line is longer than its digits: else very many digits could be gone over again and again, with little cut off each time.
func cutLine(s string) (line, behind string, ok bool) {
	digits, _, _ := strings.Cut(s, blank)
	size, err := strconv.Atoi(digits)
	if err != nil || size <= len(digits) || size > len(s) {
		return "", "", false
	}
	return s[:size], s[size:], true
}

// seeming is the record that a line seems to say. Records in form have just one row of bytes: whatever isn't looked at here (how the length is written, what the keyword is made of, whether = and the end are there) is found when they are encoded again.
func seeming(line string) api.Record {
	_, pair, _ := strings.Cut(line, blank)
	key, value, _ := strings.Cut(pair, equals)
	return api.Record{Key: key, Value: strings.TrimSuffix(value, end)}
}
