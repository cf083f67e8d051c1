package device

import (
	"jalousie/api"
	"jalousie/entry"
	"jalousie/filter"
	"jalousie/index"
	"jalousie/pack"
	"jalousie/proof"
	"jalousie/vector"
)

// The kinds of records.
const (
	ofEntry  = 1
	ofBody   = 2
	ofFilter = 3
	ofAlarm  = 4
	ofFloor  = 5
	ofLife   = 6
)

// record is what is kept at once. It has only what its kind has; a body's piece has of its header the writer and number alone.
type record struct {
	kind   int
	piece  index.Piece
	filter filter.Filter
	alarm  proof.Proof
	relay  int
	floor  vector.Vector
	lives  uint64
}

// packed is the bytes of a record, none of which has more than a store takes.
func packed(r record) []byte {
	var o pack.Out
	o.Num(uint64(r.kind))
	switch r.kind {
	case ofEntry:
		o.Text(entry.Bytes(r.piece.Header))
		o.Text(r.piece.Body)
	case ofBody:
		o.Num(uint64(r.piece.Header.Writer))
		o.Num(r.piece.Header.Seq)
		o.Text(r.piece.Body)
	case ofFilter:
		o.Flag(r.filter.All)
		o.Num(uint64(len(r.filter.Tags)))
		for _, tag := range r.filter.Tags {
			o.Text([]byte(tag))
		}
	case ofAlarm:
		b, _ := proof.Bytes(r.alarm)
		o.Text(b)
	case ofFloor:
		o.Num(uint64(r.relay))
		for _, n := range r.floor {
			o.Num(n)
		}
	case ofLife:
		o.Num(r.lives)
	}
	b, _ := o.End()
	return b
}

// parse is the record that has these bytes, and whether there is one.
func parse(b []byte) (record, bool) {
	in := pack.Read(b)
	r := record{kind: int(in.Num(ofLife))}
	e := api.OK
	switch r.kind {
	case ofEntry:
		r.piece.Header, e = entry.Parse(in.Text(api.MaxBytes))
		r.piece.Body = in.Text(api.MaxBytes)
	case ofBody:
		r.piece.Header.Writer = int(in.Num(api.MaxMembers))
		r.piece.Header.Seq = in.Num(api.MaxSeq)
		r.piece.Body = in.Text(api.MaxBytes)
	case ofFilter:
		r.filter.All = in.Flag()
		for range in.Num(api.MaxTags) {
			r.filter.Tags = append(r.filter.Tags, string(in.Text(api.MaxName)))
		}
	case ofAlarm:
		r.alarm, e = proof.Parse(in.Text(api.MaxBytes))
	case ofFloor:
		r.relay = int(in.Num(relays - 1))
		for i := range r.floor {
			r.floor[i] = in.Num(api.MaxSeq)
		}
	case ofLife:
		r.lives = in.Num(mostLives)
	default:
		return record{}, false
	}
	return r, e == api.OK && in.Over()
}

// replaced is what a record replaces: the ones ahead of it of the same kind, and relay.
type replaced struct {
	kind, relay int
}

// lasting is the records without those that later ones replace. The others stay in their order, on which what they say hangs.
func lasting(records [][]byte) [][]byte {
	last := map[replaced]int{}
	for i, b := range records {
		r, _ := parse(b)
		last[replaced{r.kind, r.relay}] = i
	}
	var l [][]byte
	for i, b := range records {
		r, _ := parse(b)
		switch r.kind {
		case ofFilter, ofFloor, ofLife:
			if last[replaced{r.kind, r.relay}] != i {
				continue
			}
		}
		l = append(l, b)
	}
	return l
}
