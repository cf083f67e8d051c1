package device

import (
	"bytes"
	"slices"

	"jalousie/api"
	"jalousie/control"
	"jalousie/entry"
	"jalousie/filter"
	"jalousie/group"
	"jalousie/index"
	"jalousie/item"
	"jalousie/keys"
	"jalousie/own"
	"jalousie/proof"
	"jalousie/vector"
	"jalousie/writer"
)

// noRow is of an entry that isn't an item's.
const noRow = -1

// content is what a device has of an entry beside its header: its body, if it is there, and which row is its.
type content struct {
	body []byte
	row  int
}

// held is all that a device holds.
type held struct {
	seed     api.Hash
	chains   [api.MaxMembers]writer.Chain
	contents [api.MaxMembers][]content
	rows     []item.Row
	time     uint64
	ring     proof.Ring
	group    group.Group
	filter   filter.Filter
	alarmed  bool
	alarm    proof.Proof
	floors   [relays]vector.Vector
	lives    uint64
}

// hold holds what a record says, when it is made, taken, or read again; it tells whether a device can have kept it.
func (d *Device) hold(r record) bool {
	switch r.kind {
	case ofEntry:
		return d.holdEntry(r.piece)
	case ofBody:
		return d.holdBody(r.piece)
	case ofFilter:
		d.held.filter = filter.Filter{All: r.filter.All, Tags: slices.Clone(r.filter.Tags)}
		return filter.Formed(r.filter)
	case ofAlarm:
		already := d.held.alarmed
		d.held.alarmed, d.held.alarm = true, ownProof(r.alarm)
		return !already
	case ofFloor:
		d.held.floors[r.relay] = vector.Join(d.held.floors[r.relay], r.floor)
		return true
	case ofLife:
		more := r.lives > d.held.lives
		d.held.lives = r.lives
		return more
	}
	return false
}

// holdEntry takes an entry behind what is held.
func (d *Device) holdEntry(p index.Piece) bool {
	h := p.Header
	if (h.Control || len(p.Body) > 0) && !index.Whole(p) || !vector.Ready(d.Heads(), h) {
		return false
	}
	if d.held.chains[h.Writer-1].Add(h) != api.OK {
		return false
	}
	t := content{body: bytes.Clone(p.Body), row: noRow}
	if h.Control {
		d.obey(p)
	} else {
		t.row = len(d.held.rows)
		d.held.rows = append(d.held.rows, d.rowOf(p))
	}
	d.held.contents[h.Writer-1] = append(d.held.contents[h.Writer-1], t)
	d.held.time = max(d.held.time, h.Time)
	return true
}

// obey lets the group, the ring and the seed become what a control says, if the group applies it.
func (d *Device) obey(p index.Piece) {
	h := p.Header
	b, e := entry.Open(d.box, d.ofGroup, h, p.Body)
	if e != api.OK {
		return
	}
	c, e := control.Parse(b)
	if e != api.OK {
		return
	}
	behind, e := group.Apply(d.held.group, h, c)
	if e != api.OK {
		return
	}
	d.held.group = behind
	me, secret := d.config.Me, d.config.Secret
	if key, e := control.Mine(d.box, secret, h.Writer, me, behind.Epoch, c); e == api.OK {
		d.learn(behind.Epoch, key)
	}
	if c.Op != opHand || c.Member != me {
		return
	}
	if seed, e := control.Taken(d.box, secret, h.Writer, me, c); e == api.OK {
		d.held.seed = seed
	}
}

// learn puts an epoch's key, and those of all ahead of it, into the ring. Where one is there already, those ahead of it are, too.
func (d *Device) learn(epoch int, key api.Hash) {
	ring := &d.held.ring
	had := len(ring.Epochs)
	for len(ring.Epochs) <= epoch {
		ring.Epochs = append(ring.Epochs, api.Hash{})
	}
	for i := epoch; i >= 0; i-- {
		if i < had && ring.Epochs[i] == key {
			return
		}
		ring.Epochs[i] = key
		key, _ = control.Back(key, i, i-1)
	}
}

// rowOf is the row that an item's entry makes.
func (d *Device) rowOf(p index.Piece) item.Row {
	h := p.Header
	r := item.Row{Header: own.Header(h)}
	s, ok := proof.Keys(d.held.ring, h)
	if !ok || len(p.Body) == 0 {
		return r
	}
	b, e := entry.Open(d.box, s, h, p.Body)
	if e != api.OK {
		return r
	}
	c, e := entry.ParseChange(b)
	if e != api.OK || keys.Item(d.box, d.ofGroup, c.Name) != h.Item || !slices.Equal(keys.Tokens(d.box, d.ofGroup, c.Tags), h.Tokens) {
		return r
	}
	r.Known, r.Change = true, c
	return r
}

// lacks tells whether the entry of this writer and number is an item's, and held without its body.
func (d *Device) lacks(h entry.Header) bool {
	if h.Writer < 1 || h.Writer > api.MaxMembers {
		return false
	}
	l := d.held.contents[h.Writer-1]
	return h.Seq >= 1 && h.Seq <= uint64(len(l)) && l[h.Seq-1].row != noRow && len(l[h.Seq-1].body) == 0
}

// holdBody takes the body of an entry that is held without.
func (d *Device) holdBody(p index.Piece) bool {
	if !d.lacks(p.Header) {
		return false
	}
	i, seq := p.Header.Writer-1, p.Header.Seq
	h, _ := d.held.chains[i].At(seq)
	whole := index.Piece{Header: h, Body: p.Body}
	if !index.Whole(whole) {
		return false
	}
	t := &d.held.contents[i][seq-1]
	t.body = bytes.Clone(p.Body)
	d.held.rows[t.row] = d.rowOf(whole)
	return true
}

func ownProof(p proof.Proof) proof.Proof {
	p.A, p.B = own.Header(p.A), own.Header(p.B)
	p.Wanted = slices.Clone(p.Wanted)
	return p
}
