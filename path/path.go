// Package path has paths, and the keys that stand for what they have. See shared/doc/01-path.md.
package path

import (
	"strings"

	"downspout/api"
)

// Parse returns the path that is typed as s.
func Parse(s string) (string, api.Errno) {
	if s == "/" {
		return "", api.OK
	}
	// A path other than the root has as many bytes as its typed form.
	if s == "" || s[0] != '/' || len(s) > api.MaxPath {
		return "", api.ErrPath
	}
	p := s[1:] + "/"
	if !Valid(p) {
		return "", api.ErrPath
	}
	return p, api.OK
}

// Text returns how a path is typed.
func Text(p string) string {
	return "/" + strings.TrimSuffix(p, "/")
}

// Valid reports whether a text is a path.
func Valid(p string) bool {
	r := parser{rest: p}
	r.path()
	return r.rest == ""
}

// Split returns the path above a path, and its last name.
func Split(p string) (string, string, api.Errno) {
	if !Valid(p) {
		return "", "", api.ErrPath
	}
	if p == "" {
		return "", "", api.ErrRoot
	}
	names := p[:len(p)-1]
	last := strings.LastIndexByte(names, '/') + 1
	return names[:last], names[last:], api.OK
}

// Join returns the path of a name in a path.
func Join(p, name string) (string, api.Errno) {
	if !Valid(p) {
		return "", api.ErrPath
	}
	if !isName(name) {
		return "", api.ErrName
	}
	if len(p)+len(name)+1 > api.MaxPath {
		return "", api.ErrBig
	}
	return p + name + "/", api.OK
}

// Under reports whether p is q, or below it.
func Under(p, q string) bool { return strings.HasPrefix(p, q) }

// isName reports whether a text is a name.
func isName(s string) bool {
	if s == "" || len(s) > api.MaxName || s == "." || s == ".." {
		return false
	}
	for i := range len(s) {
		if s[i] <= ' ' || s[i] > '~' || s[i] == '/' {
			return false
		}
	}
	return true
}
