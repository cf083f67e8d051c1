// Package names tells what may be a name, and a list of tags.
package names

import (
	"jalousie/api"
)

// Is tells whether s may be a name.
func Is(s string) bool {
	return len(s) >= 1 && len(s) <= api.MaxName
}

// AreTags tells whether l are names, not too many, each above the one ahead.
func AreTags(l []string) bool {
	if len(l) > api.MaxTags {
		return false
	}
	for i, tag := range l {
		if !Is(tag) || i > 0 && l[i-1] >= tag {
			return false
		}
	}
	return true
}
