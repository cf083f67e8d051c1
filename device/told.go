package device

import (
	"bytes"
	"slices"

	"jalousie/api"
	"jalousie/entry"
	"jalousie/filter"
	"jalousie/group"
	"jalousie/index"
	"jalousie/item"
	"jalousie/own"
	"jalousie/proof"
	"jalousie/vector"
)

// Me is the device's number.
func (d *Device) Me() int {
	return d.config.Me
}

// Knows tells whether there are keys for the header, and it is right.
func (d *Device) Knows(h entry.Header) bool {
	return d.box != nil && proof.Right(d.box, d.held.ring, h)
}

// Heads is, of each writer, how many entries are held.
func (d *Device) Heads() vector.Vector {
	var heads vector.Vector
	for i := range heads {
		heads[i] = d.held.chains[i].Head()
	}
	return heads
}

// Piece is an entry that is held.
func (d *Device) Piece(writer int, seq uint64) (index.Piece, api.Errno) {
	if writer < 1 || writer > api.MaxMembers {
		return index.Piece{}, api.ErrNone
	}
	h, ok := d.held.chains[writer-1].At(seq)
	if !ok {
		return index.Piece{}, api.ErrNone
	}
	return index.Piece{Header: h, Body: bytes.Clone(d.held.contents[writer-1][seq-1].body)}, api.OK
}

// Rows are the rows that count, as they were taken.
func (d *Device) Rows() []item.Row {
	var rows []item.Row
	for _, r := range d.held.rows {
		if group.Counts(d.held.group, r.Header.Writer, r.Header.Seq) {
			rows = append(rows, item.Row{Header: own.Header(r.Header), Known: r.Known, Change: own.Change(r.Change)})
		}
	}
	return rows
}

// Items are the items that the filter shows.
func (d *Device) Items() []item.Item {
	return filter.Shown(d.held.filter, d.Rows())
}

// Pending is what is wanted, and not there.
func (d *Device) Pending() []entry.Header {
	return filter.Pending(d.Wish(), d.Rows())
}

// Group is the group, as far as the device knows.
func (d *Device) Group() group.Group {
	return d.held.group
}

// Ring is the keys that the device has.
func (d *Device) Ring() proof.Ring {
	return proof.Ring{Group: d.held.ring.Group, Epochs: slices.Clone(d.held.ring.Epochs)}
}

// Filter is what the device wants to see.
func (d *Device) Filter() filter.Filter {
	return filter.Filter{All: d.held.filter.All, Tags: slices.Clone(d.held.filter.Tags)}
}

// Wish is the filter, blinded by the group's keys.
func (d *Device) Wish() filter.Wish {
	return filter.Of(d.box, d.ofGroup, d.held.filter)
}

// Alarm is the proof that was raised, and whether one was.
func (d *Device) Alarm() (proof.Proof, bool) {
	return ownProof(d.held.alarm), d.held.alarmed
}

// Floor is a relay's floor.
func (d *Device) Floor(relay int) vector.Vector {
	if relay < 0 || relay >= relays {
		return vector.Vector{}
	}
	return d.held.floors[relay]
}

// Over tells whether the disk failed the device.
func (d *Device) Over() bool {
	return d.store.Over()
}
