// Package names has names and paths: see doc/01-names.md.
package names

import (
	"strings"

	"longabsence/api"
)

const slash = "/"

// Name tells whether s may stand between the slashes of a path.
func Name(s string) bool {
	if len(s) < 1 || len(s) > api.MaxName {
		return false
	}
	// By bytes, not by runes: a name's limit counts bytes, and bytes that are no text at all are no name either.
	for i := range len(s) {
		if !sign(s[i]) {
			return false
		}
	}
	return true
}

func sign(b byte) bool {
	return 'a' <= b && b <= 'z' || '0' <= b && b <= '9'
}

// Split answers the names of a path; the root, "/", has none.
func Split(s string) ([]string, api.Errno) {
	if len(s) > api.MaxPath {
		return nil, api.ErrMuch
	}
	// The root is asked for by itself: else the nothing behind its slash would be an empty name.
	if s == slash {
		return nil, api.OK
	}
	rest, found := strings.CutPrefix(s, slash)
	if !found {
		return nil, api.ErrForm
	}
	l := strings.Split(rest, slash)
	for _, name := range l {
		if !Name(name) {
			return nil, api.ErrName
		}
	}
	return l, api.OK
}

// Join answers the path of these names; it does not ask whether they are names.
func Join(l []string) string {
	return slash + strings.Join(l, slash)
}
