package ask

import (
	"bytes"
	"slices"

	"jalousie/api"
	"jalousie/entry"
	"jalousie/pack"
	"jalousie/pad"
)

// mark stands behind a reply's packed bytes, ahead of the noughts.
const mark = 1

// FormedReply tells whether the reply is one.
func FormedReply(r Reply) bool {
	if r.Kind < push || r.Kind > fetch || r.Err < api.OK || r.Err > api.ErrSpent {
		return false
	}
	if slices.Max(r.Heads[:]) > api.MaxSeq || len(r.Pieces) > api.MaxBatch {
		return false
	}
	told := 0
	for _, p := range r.Pieces {
		if !entry.Formed(p.Header) || len(p.Body) != 0 && len(p.Body) != p.Header.Size {
			return false
		}
		told += size(p)
	}
	return told <= mostTold
}

// ReplyBytes are a reply's bytes.
func ReplyBytes(r Reply) ([]byte, api.Errno) {
	if !FormedReply(r) {
		return nil, api.ErrArg
	}
	var o pack.Out
	o.Num(r.ID)
	o.Num(uint64(r.Kind))
	o.Num(uint64(r.Err))
	putVector(&o, r.Heads)
	o.Num(uint64(len(r.Pieces)))
	for _, p := range r.Pieces {
		putPiece(&o, p)
	}
	packed, e := o.End()
	if e != api.OK {
		return nil, e
	}
	padded := make([]byte, pad.Batch(len(packed)+1))
	padded[copy(padded, packed)] = mark
	return padded, api.OK
}

// ParseReply is the formed reply that has these bytes.
func ParseReply(b []byte) (Reply, api.Errno) {
	packed, ok := unpadded(b)
	in := pack.Read(packed)
	r := Reply{ID: in.Num(1<<64 - 1), Kind: int(in.Num(fetch)), Err: api.Errno(in.Num(uint64(api.ErrSpent)))}
	r.Heads = takeVector(in)
	for range in.Num(api.MaxBatch) {
		p, formed := takePiece(in)
		ok = ok && formed
		r.Pieces = append(r.Pieces, p)
	}
	if !ok || !in.Over() || !FormedReply(r) {
		return Reply{}, api.ErrForm
	}
	return r, api.OK
}

// unpadded is what stands ahead of the mark, and whether the noughts behind it are as many as they should be.
func unpadded(b []byte) ([]byte, bool) {
	packed, ok := bytes.CutSuffix(bytes.TrimRight(b, "\x00"), []byte{mark})
	return packed, ok && len(b) == pad.Batch(len(packed)+1)
}
