package entry

import (
	"jalousie/api"
	"jalousie/names"
	"jalousie/pack"
)

// What a change does.
const (
	opPut    = 1
	opDelete = 2
	opTag    = 3
)

// Change is what an entry says of an item.
type Change struct {
	Op    int
	Name  string
	Tags  []string
	Value string
}

// FormedChange tells whether the change is one.
func FormedChange(c Change) bool {
	return c.Op >= opPut && c.Op <= opTag &&
		names.Is(c.Name) && names.AreTags(c.Tags) &&
		len(c.Value) <= api.MaxValue &&
		(c.Op == opPut || c.Value == "") &&
		(c.Op != opDelete || len(c.Tags) == 0)
}

// PackChange packs a change.
func PackChange(c Change) ([]byte, api.Errno) {
	if !FormedChange(c) {
		return nil, api.ErrArg
	}
	var o pack.Out
	o.Num(uint64(c.Op))
	o.Text([]byte(c.Name))
	o.Num(uint64(len(c.Tags)))
	for _, tag := range c.Tags {
		o.Text([]byte(tag))
	}
	o.Text([]byte(c.Value))
	return o.End()
}

// ParseChange is the formed change that is packed as b.
func ParseChange(b []byte) (Change, api.Errno) {
	in := pack.Read(b)
	var c Change
	c.Op = int(in.Num(opTag))
	c.Name = string(in.Text(api.MaxName))
	for range in.Num(api.MaxTags) {
		c.Tags = append(c.Tags, string(in.Text(api.MaxName)))
	}
	c.Value = string(in.Text(api.MaxValue))
	if !in.Over() || !FormedChange(c) {
		return Change{}, api.ErrForm
	}
	return c, api.OK
}
