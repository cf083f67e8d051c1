// Package own makes copies that share no memory with what they are of.
package own

import (
	"slices"

	"jalousie/entry"
)

// Header is a copy of a header.
func Header(h entry.Header) entry.Header {
	h.Tokens = slices.Clone(h.Tokens)
	return h
}

// Change is a copy of a change.
func Change(c entry.Change) entry.Change {
	c.Tags = slices.Clone(c.Tags)
	return c
}
