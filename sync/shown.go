package sync

import (
	"jalousie/api"
	"jalousie/ask"
	"jalousie/filter"
	"jalousie/proof"
	"jalousie/vector"
)

// The kinds of proofs (layer 15) that a reply shows.
const (
	floor = 3
	omit  = 4
)

// reply is what a relay told, of which request, and the floor that the device had of it then.
type reply struct {
	asked ask.Request
	told  ask.Reply
	floor vector.Vector
}

// raise raises the first thing that a reply shows, and tells which it is.
func (s *Sync) raise(r reply) api.Errno {
	for _, look := range s.looks() {
		p, shown := look(r)
		if !shown {
			continue
		}
		if e := s.device.Raise(p); e == api.ErrFull || e == api.ErrLost || e == api.ErrSpent {
			return e
		}
		if p.Kind == floor {
			return api.ErrFloor
		}
		return api.ErrOmit
	}
	return api.OK
}

// looks are the functions that look for what a reply shows, in turn.
func (s *Sync) looks() []func(reply) (proof.Proof, bool) {
	return []func(reply) (proof.Proof, bool){belowFloor, s.belowPush, s.omitted}
}

// belowFloor finds the first writer whose head is below the floor.
func belowFloor(r reply) (proof.Proof, bool) {
	for i, n := range r.told.Heads {
		if n < r.floor[i] {
			return proof.Proof{Kind: floor, Writer: i + 1, Floor: r.floor[i], Head: n}, true
		}
	}
	return proof.Proof{}, false
}

// belowPush finds whether a relay took the device's entry, and tells fewer.
func (s *Sync) belowPush(r reply) (proof.Proof, bool) {
	if r.asked.Kind != push || r.told.Err != api.OK {
		return proof.Proof{}, false
	}
	me, seq := s.device.Me(), r.asked.Piece.Header.Seq
	head := r.told.Heads[me-1]
	if head >= seq {
		return proof.Proof{}, false
	}
	return proof.Proof{Kind: floor, Writer: me, Floor: seq, Head: head}, true
}

// omitted finds the first entry that was wanted, and told without its body.
func (s *Sync) omitted(r reply) (proof.Proof, bool) {
	if r.asked.Kind != pull {
		return proof.Proof{}, false
	}
	for _, p := range r.told.Pieces {
		h := p.Header
		if len(p.Body) == 0 && !h.Control && filter.Meets(r.asked.Wish, h) && s.device.Knows(h) {
			return proof.Proof{Kind: omit, A: h, Wanted: r.asked.Wish.Tokens}, true
		}
	}
	return proof.Proof{}, false
}
