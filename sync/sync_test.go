package sync

import (
	"bytes"
	"fmt"
	"math"
	"math/rand"
	"slices"
	"strings"
	"testing"

	"jalousie/api"
	"jalousie/ask"
	"jalousie/box"
	"jalousie/device"
	"jalousie/disk"
	"jalousie/entry"
	"jalousie/filter"
	"jalousie/index"
	"jalousie/keys"
	"jalousie/proof"
	"jalousie/relay"
	"jalousie/vector"
)

var (
	secret = api.Hash{42}
	all    = filter.Filter{All: true}
)

// node is a device, its disk, and its sync.
type node struct {
	*device.Device
	box  *box.Box
	disk *disk.Disk
	sync *Sync
}

func ok(t *testing.T, e api.Errno) {
	t.Helper()
	if e != api.OK {
		t.Fatal(e)
	}
}

func (n *node) open(t *testing.T, me int) {
	t.Helper()
	d, e := device.Open(n.box, device.Config{Me: me, Secret: secret, Seed: api.Hash{byte(me)}}, n.disk)
	ok(t, e)
	n.Device = d
	n.sync, e = New(d)
	ok(t, e)
}

// nodes are n devices that want all, the first one the owner of a group of them.
func nodes(t *testing.T, n int) []*node {
	t.Helper()
	x := box.New(true, api.Hash{1})
	var l []*node
	for i := range n {
		v := &node{box: x, disk: disk.New(1000)}
		v.open(t, i+1)
		ok(t, v.SetFilter(all))
		l = append(l, v)
	}
	ok(t, l[0].Control(1, 0))
	for i := 1; i < n; i++ {
		ok(t, l[0].Control(2, i+1))
	}
	return l
}

func newRelay(t *testing.T) *relay.Relay {
	t.Helper()
	r, e := relay.Open(disk.New(1000))
	ok(t, e)
	return r
}

// round asks a relay, and takes what it tells.
func (n *node) round(t *testing.T, k int, r *relay.Relay) api.Errno {
	t.Helper()
	b, e := n.sync.Ask(k)
	ok(t, e)
	told, served := ask.Serve(r, b)
	if !served {
		t.Fatal("the relay doesn't know what is asked")
	}
	return n.sync.Take(k, told)
}

// asked is the request that is asked next.
func (n *node) asked(t *testing.T, k int) ask.Request {
	t.Helper()
	b, e := n.sync.Ask(k)
	ok(t, e)
	q, e := ask.Parse(b)
	ok(t, e)
	open, is := n.sync.Open(k)
	if c, _ := ask.Bytes(open); !is || !bytes.Equal(b, c) {
		t.Error("what is asked isn't what is open")
	}
	return q
}

// tell lets the sync take a reply.
func (n *node) tell(t *testing.T, k int, r ask.Reply) api.Errno {
	t.Helper()
	b, e := ask.ReplyBytes(r)
	ok(t, e)
	return n.sync.Take(k, b)
}

func put(name, value string, tags ...string) entry.Change {
	return entry.Change{Op: 1, Name: name, Tags: tags, Value: value}
}

func TestNewBeginsALife(t *testing.T) {
	n := &node{box: box.New(false, api.Hash{}), disk: disk.New(100)}
	for life := uint64(1); life < 4; life++ {
		n.open(t, 1)
		for i := uint64(1); i < 6; i++ {
			if q := n.asked(t, int(i)%4); q.ID != life<<32+i {
				t.Error(life, q.ID)
			}
		}
	}
	n.disk.Fuse(0)
	if s, e := New(n.Device); e != api.ErrLost || s != nil {
		t.Error(e)
	}
}

func TestThereAreFourRelays(t *testing.T) {
	n := nodes(t, 1)[0]
	for _, k := range []int{-1, 4, math.MaxInt, math.MinInt} {
		if b, e := n.sync.Ask(k); e != api.ErrArg || len(b) != 0 {
			t.Error(k, e)
		}
		if e := n.sync.Take(k, nil); e != api.ErrArg {
			t.Error(k, e)
		}
		if q, is := n.sync.Open(k); is || q.Kind != 0 || n.sync.Acked(k) != 0 {
			t.Error(k)
		}
	}
	for k := range 4 {
		if q, is := n.sync.Open(k); is || q.ID != 0 || n.sync.Acked(k) != 0 {
			t.Error(k)
		}
	}
}

func TestANewDeviceAsksAPull(t *testing.T) {
	n := &node{box: box.New(true, api.Hash{}), disk: disk.New(100)}
	n.open(t, 2)
	ok(t, n.SetFilter(filter.Filter{Tags: []string{"a", "b"}}))
	for range 3 {
		q := n.asked(t, 0)
		if q.Kind != 2 || q.Cursor != (vector.Vector{}) || q.Most != api.MaxBatch || !slices.Equal(q.Wish.Tokens, n.Wish().Tokens) || len(q.Wish.Tokens) != 2 {
			t.Error(q)
		}
	}
}

func TestOwnEntriesArePushedFirst(t *testing.T) {
	n, r := nodes(t, 1)[0], newRelay(t)
	ok(t, n.Change(put("a", "v")))
	for seq := uint64(1); seq <= 2; seq++ {
		q := n.asked(t, 0)
		if p, _ := n.Piece(1, seq); q.Kind != 1 || q.Piece.Header.Seq != seq || !bytes.Equal(q.Piece.Body, p.Body) || n.sync.Acked(0) != seq-1 {
			t.Error(q)
		}
		ok(t, n.round(t, 0, r))
		if _, is := n.sync.Open(0); is || n.sync.Acked(0) != seq || r.Count() != int(seq) || n.Floor(0) != (vector.Vector{seq}) {
			t.Error(seq, n.Floor(0))
		}
	}
	if q := n.asked(t, 0); q.Kind != 2 || q.Cursor != (vector.Vector{2}) {
		t.Error(q)
	}
	if q := n.asked(t, 1); q.Kind != 1 || n.sync.Acked(1) != 0 {
		t.Error("another relay", q)
	}
	ok(t, n.Change(put("a", "w")))
	if q := n.asked(t, 0); q.Kind != 1 || q.Piece.Header.Seq != 3 {
		t.Error(q)
	}
}

func TestAPushThatIsRefused(t *testing.T) {
	n := nodes(t, 1)[0]
	q := n.asked(t, 0)
	if e := n.tell(t, 0, ask.Reply{ID: q.ID, Kind: 1, Err: api.ErrFull, Heads: vector.Vector{0, 7}}); e != api.ErrFull || n.sync.Acked(0) != 0 {
		t.Error(e)
	}
	if _, is := n.sync.Open(0); is || n.Floor(0) != (vector.Vector{}) {
		t.Error("it is open, or the floor is lifted")
	}
	if q := n.asked(t, 0); q.Kind != 1 {
		t.Error(q)
	}
}

func TestPendingEntriesAreFetchedInTurn(t *testing.T) {
	l := nodes(t, 2)
	a, b, r := l[0], l[1], newRelay(t)
	for range 2 {
		ok(t, a.round(t, 0, r))
	}
	ok(t, b.round(t, 0, r))
	ok(t, b.SetFilter(filter.Filter{}))
	for i := range 3 {
		ok(t, a.Change(put(fmt.Sprint(i), "v", "x")))
		ok(t, a.round(t, 0, r))
	}
	ok(t, b.round(t, 0, r))
	if b.Heads() != (vector.Vector{5}) || len(b.Pending()) != 0 {
		t.Fatal(b.Heads(), b.Pending())
	}
	ok(t, b.SetFilter(filter.Filter{Tags: []string{"x"}}))
	var kinds []string
	for range 8 {
		switch q := b.asked(t, 0); q.Kind {
		case 2:
			kinds = append(kinds, "pull")
		case 3:
			kinds = append(kinds, fmt.Sprint(q.Writer, ".", q.Seq))
		}
	}
	if want := "pull 1.4 pull 1.5 pull 1.3 pull 1.4"; strings.Join(kinds, " ") != want {
		t.Error(kinds)
	}
	for range 12 {
		ok(t, b.round(t, 0, r))
	}
	if len(b.Pending()) != 0 || len(b.Items()) != 3 {
		t.Error(len(b.Pending()))
	}
	if q := b.asked(t, 0); q.Kind != 2 {
		t.Error(q)
	}
	if q := b.asked(t, 0); q.Kind != 2 {
		t.Error("an odd turn without anything pending", q)
	}
}

func TestTakeAsksWhatIsOpen(t *testing.T) {
	n := nodes(t, 1)[0]
	for _, b := range [][]byte{nil, {1}, make([]byte, 16)} {
		if e := n.sync.Take(0, b); e != api.ErrForm {
			t.Error(e)
		}
	}
	if e := n.tell(t, 0, ask.Reply{ID: 1<<32 + 1, Kind: 1, Heads: vector.Vector{1}}); e != api.ErrOld {
		t.Error("nothing is open", e)
	}
	first := n.asked(t, 0)
	q := n.asked(t, 0)
	good := ask.Reply{ID: q.ID, Kind: 1, Heads: vector.Vector{1}}
	for i, r := range []ask.Reply{{ID: first.ID, Kind: 1}, {ID: q.ID, Kind: 2}, {ID: q.ID, Kind: 3}, {ID: q.ID + 1, Kind: 1}} {
		if e := n.tell(t, 0, r); e != api.ErrOld {
			t.Error(i, e)
		}
	}
	if e := n.tell(t, 1, good); e != api.ErrOld {
		t.Error("another relay", e)
	}
	if _, is := n.sync.Open(0); !is {
		t.Error("it doesn't stay open")
	}
	ok(t, n.tell(t, 0, good))
	if e := n.tell(t, 0, good); e != api.ErrOld {
		t.Error("a double", e)
	}
	if _, raised := n.Alarm(); raised {
		t.Error("an alarm")
	}
}

func TestAFloorIsRaised(t *testing.T) {
	n := nodes(t, 1)[0]
	ok(t, n.Lift(0, vector.Vector{0, 3, 3}))
	q := n.asked(t, 0)
	ok(t, n.Lift(0, vector.Vector{0, 0, 0, 9}))
	if e := n.tell(t, 0, ask.Reply{ID: q.ID, Kind: 1, Err: api.ErrFull, Heads: vector.Vector{1, 3, 2, 1}}); e != api.ErrFloor {
		t.Fatal(e)
	}
	p, raised := n.Alarm()
	if !raised || p.Kind != 3 || p.Writer != 3 || p.Floor != 3 || p.Head != 2 || !proof.Check(n.box, n.Ring(), p) {
		t.Error(p)
	}
	if _, is := n.sync.Open(0); is || n.Floor(0) != (vector.Vector{0, 3, 3, 9}) {
		t.Error("it is open, or the floor was lifted")
	}
	if b, e := n.sync.Ask(0); e != api.ErrState || len(b) != 0 {
		t.Error(e)
	}
	if _, e := n.sync.Ask(4); e != api.ErrArg {
		t.Error(e)
	}
}

func TestTheFloorIsThatOfWhenItWasAsked(t *testing.T) {
	n := nodes(t, 1)[0]
	q := n.asked(t, 0)
	ok(t, n.Lift(0, vector.Vector{0, 5}))
	ok(t, n.tell(t, 0, ask.Reply{ID: q.ID, Kind: 1, Heads: vector.Vector{1, 4}}))
	if n.Floor(0) != (vector.Vector{1, 5}) {
		t.Error(n.Floor(0))
	}
}

func TestAPushThatIsTakenAndNotTold(t *testing.T) {
	n := nodes(t, 2)[0]
	q := n.asked(t, 0)
	ok(t, n.tell(t, 0, ask.Reply{ID: q.ID, Kind: 1, Heads: vector.Vector{1}}))
	q = n.asked(t, 1)
	ok(t, n.tell(t, 1, ask.Reply{ID: q.ID, Kind: 1, Heads: vector.Vector{1}}))
	q = n.asked(t, 0)
	if e := n.tell(t, 0, ask.Reply{ID: q.ID, Kind: 1, Heads: vector.Vector{1, 9}}); e != api.ErrFloor || n.sync.Acked(0) != 1 {
		t.Fatal(e)
	}
	if p, raised := n.Alarm(); !raised || p.Kind != 3 || p.Writer != 1 || p.Floor != 2 || p.Head != 1 {
		t.Error(p)
	}
	q, _ = n.sync.Open(1)
	if q.Kind != 0 {
		t.Error(q)
	}
}

// entryOf is a right entry of a writer, with a tag's token, behind what n holds.
func (n *node) entryOf(t *testing.T, writer int, ahead *index.Piece, tag, value string) index.Piece {
	t.Helper()
	own, ring := keys.Of(n.Ring().Group), n.Ring()
	c := put("i", value, tag)
	h := entry.Header{
		Writer: writer, Seq: 1, Epoch: len(ring.Epochs) - 1, Time: 50,
		Item: keys.Item(n.box, own, "i"), Tokens: keys.Tokens(n.box, own, c.Tags),
	}
	if ahead != nil {
		h.Seq, h.Prev = ahead.Header.Seq+1, entry.Hash(ahead.Header)
	}
	h.Knows[writer-1] = h.Seq - 1
	s, _ := proof.Keys(ring, h)
	text, e := entry.PackChange(c)
	ok(t, e)
	h, body, e := entry.Make(n.box, s, h, text)
	ok(t, e)
	return index.Piece{Header: h, Body: body}
}

// pulling is a node whose own entries are acked, so that it asks PULLs of the relay 0.
func pulling(t *testing.T, f filter.Filter) *node {
	t.Helper()
	n := nodes(t, 2)[0]
	ok(t, n.SetFilter(f))
	for seq := uint64(1); seq <= 2; seq++ {
		q := n.asked(t, 0)
		ok(t, n.tell(t, 0, ask.Reply{ID: q.ID, Kind: 1, Heads: vector.Vector{seq}}))
	}
	return n
}

// pulled is what taking a PULL's reply answers.
func (n *node) pulled(t *testing.T, pieces ...index.Piece) api.Errno {
	t.Helper()
	q := n.asked(t, 0)
	if q.Kind != 2 {
		t.Fatal(q)
	}
	return n.tell(t, 0, ask.Reply{ID: q.ID, Kind: 2, Heads: vector.Vector{2, 5}, Pieces: pieces})
}

func TestAnOmittedBodyIsRaised(t *testing.T) {
	for _, f := range []filter.Filter{all, {Tags: []string{"w", "x"}}} {
		n := pulling(t, f)
		first := n.entryOf(t, 2, nil, "x", "v")
		second := n.entryOf(t, 2, &first, "x", "w")
		if e := n.pulled(t, first, index.Piece{Header: second.Header}); e != api.ErrOmit {
			t.Fatal(e)
		}
		p, raised := n.Alarm()
		if !raised || p.Kind != 4 || !entry.Same(p.A, second.Header) || !slices.Equal(p.Wanted, n.Wish().Tokens) || !proof.Check(n.box, n.Ring(), p) {
			t.Error(p)
		}
		if n.Heads() != (vector.Vector{2}) || n.Floor(0) != (vector.Vector{2}) {
			t.Error("something was taken", n.Heads(), n.Floor(0))
		}
	}
}

func TestStubsThatShowNothing(t *testing.T) {
	n := pulling(t, filter.Filter{Tags: []string{"x"}})
	other := n.entryOf(t, 2, nil, "y", "v")
	wrong := n.entryOf(t, 2, &other, "x", "v")
	wrong.Header.Code[0]++
	ok(t, n.pulled(t, index.Piece{Header: other.Header}, index.Piece{Header: wrong.Header}))
	if _, raised := n.Alarm(); raised || n.Heads() != (vector.Vector{2, 1}) || n.Floor(0) != (vector.Vector{2, 5}) {
		t.Error(n.Heads(), n.Floor(0))
	}
	ctl, _ := n.Piece(1, 1)
	ok(t, n.pulled(t, index.Piece{Header: ctl.Header}))
	// What was wanted when it was asked counts, not what is wanted by now.
	asked := n.asked(t, 1)
	for asked.Kind == 1 {
		ok(t, n.tell(t, 1, ask.Reply{ID: asked.ID, Kind: 1, Heads: vector.Vector{2}}))
		asked = n.asked(t, 1)
	}
	ok(t, n.SetFilter(all))
	third := n.entryOf(t, 2, &other, "z", "v")
	ok(t, n.tell(t, 1, ask.Reply{ID: asked.ID, Kind: 2, Heads: vector.Vector{2}, Pieces: []index.Piece{{Header: third.Header}}}))
	if _, raised := n.Alarm(); raised || len(n.Pending()) != 2 {
		t.Error(len(n.Pending()))
	}
}

func TestPiecesAreTakenAgainAndAgain(t *testing.T) {
	n := pulling(t, all)
	var l []index.Piece
	var ahead *index.Piece
	for i := range 6 {
		p := n.entryOf(t, 2, ahead, "x", fmt.Sprint(i))
		l = append(l, p)
		ahead = &p
	}
	wrong := n.entryOf(t, 3, nil, "x", "v")
	wrong.Header.Code[0]++
	turned := slices.Clone(l)
	slices.Reverse(turned)
	ok(t, n.pulled(t, append(turned, wrong)...))
	if n.Heads() != (vector.Vector{2, 6}) || n.Items()[0].Value != "5" || n.Floor(0) != (vector.Vector{2, 5}) {
		t.Error(n.Heads())
	}
	ok(t, n.pulled(t, l...))
	ok(t, n.pulled(t))
}

func TestAForkAndABrokenLinkEndAPull(t *testing.T) {
	for _, want := range []api.Errno{api.ErrFork, api.ErrChain} {
		n := pulling(t, all)
		first := n.entryOf(t, 2, nil, "x", "1")
		ok(t, n.pulled(t, first))
		bad := n.entryOf(t, 2, nil, "x", "2")
		if want == api.ErrChain {
			bad = n.entryOf(t, 2, &bad, "x", "3")
		}
		more := n.entryOf(t, 3, nil, "x", "4")
		before := n.entryOf(t, 4, nil, "x", "5")
		q := n.asked(t, 1)
		for q.Kind == 1 {
			ok(t, n.tell(t, 1, ask.Reply{ID: q.ID, Kind: 1, Heads: vector.Vector{2}}))
			q = n.asked(t, 1)
		}
		r := ask.Reply{ID: q.ID, Kind: 2, Heads: vector.Vector{2, 9}, Pieces: []index.Piece{before, bad, more}}
		if e := n.tell(t, 1, r); e != want {
			t.Error(e)
		}
		p, raised := n.Alarm()
		if !raised || !proof.Check(n.box, n.Ring(), p) || n.Heads() != (vector.Vector{2, 1, 0, 1}) || n.Floor(1) != (vector.Vector{2}) {
			t.Error(p, n.Heads(), n.Floor(1))
		}
	}
}

func TestAFetchTakesWhatWasAskedAlone(t *testing.T) {
	n := pulling(t, filter.Filter{})
	first := n.entryOf(t, 2, nil, "x", "1")
	second := n.entryOf(t, 2, &first, "x", "2")
	ok(t, n.pulled(t, index.Piece{Header: first.Header}))
	ok(t, n.SetFilter(all))
	q := n.asked(t, 0)
	if q.Kind != 3 || q.Writer != 2 || q.Seq != 1 {
		t.Fatal(q)
	}
	ok(t, n.tell(t, 0, ask.Reply{ID: q.ID, Kind: 3, Heads: vector.Vector{2, 5}, Pieces: []index.Piece{second, first, n.entryOf(t, 3, nil, "x", "3")}}))
	if n.Heads() != (vector.Vector{2, 1}) || len(n.Pending()) != 0 {
		t.Error(n.Heads())
	}
	n.asked(t, 0)
	ok(t, n.Take(index.Piece{Header: second.Header}))
	q = n.asked(t, 0)
	ok(t, n.tell(t, 0, ask.Reply{ID: q.ID, Kind: 3, Err: api.ErrNone, Heads: vector.Vector{2, 6}, Pieces: []index.Piece{second}}))
	if len(n.Pending()) != 1 || n.Floor(0) != (vector.Vector{2, 6}) {
		t.Error("a FETCH that isn't OK", len(n.Pending()), n.Floor(0))
	}
	n.asked(t, 0)
	q = n.asked(t, 0)
	ok(t, n.tell(t, 0, ask.Reply{ID: q.ID, Kind: 3, Heads: vector.Vector{2, 6}, Pieces: []index.Piece{{Header: second.Header}}}))
	if _, raised := n.Alarm(); raised {
		t.Error("a stub of a FETCH raises")
	}
}

func TestADeviceThatIsOver(t *testing.T) {
	n := pulling(t, all)
	q := n.asked(t, 0)
	r, first := n.asked(t, 1), n.entryOf(t, 2, nil, "x", "1")
	n.disk.Fuse(0)
	if e := n.tell(t, 0, ask.Reply{ID: q.ID, Kind: 2, Heads: vector.Vector{2, 1}, Pieces: []index.Piece{first}}); e != api.ErrLost || n.Heads() != (vector.Vector{2}) {
		t.Error(e)
	}
	if b, e := n.sync.Ask(0); e != api.ErrLost || len(b) != 0 {
		t.Error(e)
	}
	if e := n.tell(t, 1, ask.Reply{ID: r.ID, Kind: 1}); e != api.ErrLost {
		t.Error("the alarm can't be kept", e)
	}
	if _, raised := n.Alarm(); raised || n.sync.Acked(1) != 0 {
		t.Error("raised")
	}
}

func TestAFullDevice(t *testing.T) {
	n := pulling(t, all)
	q := n.asked(t, 0)
	first := n.entryOf(t, 2, nil, "x", "1")
	for e := api.OK; e == api.OK; {
		_, e = n.Begin()
	}
	if e := n.tell(t, 0, ask.Reply{ID: q.ID, Kind: 2, Heads: vector.Vector{2, 1}, Pieces: []index.Piece{first}}); e != api.ErrFull {
		t.Error(e)
	}
	q = n.asked(t, 0)
	if e := n.tell(t, 0, ask.Reply{ID: q.ID, Kind: 2, Heads: vector.Vector{2, 1}}); e != api.ErrFull || n.Floor(0) != (vector.Vector{2}) {
		t.Error("lift", e)
	}
	q = n.asked(t, 0)
	if e := n.tell(t, 0, ask.Reply{ID: q.ID, Kind: 2, Heads: vector.Vector{1}}); e != api.ErrFull {
		t.Error("raise", e)
	}
	q = n.asked(t, 0)
	ok(t, n.tell(t, 0, ask.Reply{ID: q.ID, Kind: 2, Heads: vector.Vector{2}}))
}

func TestAPieceWithoutRoomEndsAPull(t *testing.T) {
	n := pulling(t, all)
	ok(t, n.Compact())
	q := n.asked(t, 0)
	first := n.entryOf(t, 2, nil, "x", strings.Repeat("v", 500))
	for range 7000 {
		n.SetFilter(all)
		if e := n.Change(put("a", "v")); e != api.OK {
			break
		}
	}
	ok(t, n.SetFilter(all))
	if e := n.tell(t, 0, ask.Reply{ID: q.ID, Kind: 2, Heads: vector.Vector{2, 1}, Pieces: []index.Piece{first}}); e != api.ErrFull || n.Floor(0) != (vector.Vector{2}) {
		t.Error(e, n.Floor(0))
	}
	ok(t, n.Lift(0, vector.Vector{3}))
}

func TestOwnEntriesWithoutABodyArentPushed(t *testing.T) {
	n := nodes(t, 1)[0]
	again := &node{box: n.box, disk: disk.New(1000)}
	again.open(t, 1)
	ok(t, n.Change(put("a", "v")))
	first, _ := n.Piece(1, 1)
	second, _ := n.Piece(1, 2)
	ok(t, again.Take(first))
	ok(t, again.Take(index.Piece{Header: second.Header}))
	q := again.asked(t, 0)
	ok(t, again.tell(t, 0, ask.Reply{ID: q.ID, Kind: 1, Heads: vector.Vector{2}}))
	if q := again.asked(t, 0); q.Kind != 2 {
		t.Error(q)
	}
	ok(t, again.Take(second))
	if q := again.asked(t, 0); q.Kind != 1 || q.Piece.Header.Seq != 2 {
		t.Error(q)
	}
}

func TestBehindAnAlarmWhatIsShownIsToldStill(t *testing.T) {
	n := pulling(t, all)
	q, r := n.asked(t, 0), n.asked(t, 1)
	ok(t, n.Raise(proof.Proof{Kind: 3, Writer: 5, Floor: 7}))
	if e := n.tell(t, 0, ask.Reply{ID: q.ID, Kind: 2, Heads: vector.Vector{1}}); e != api.ErrFloor {
		t.Error(e)
	}
	if e := n.tell(t, 1, ask.Reply{ID: r.ID, Kind: 1}); e != api.ErrFloor {
		t.Error(e)
	}
	if p, _ := n.Alarm(); p.Writer != 5 {
		t.Error(p)
	}
}

func TestOpenSharesNothing(t *testing.T) {
	n := nodes(t, 1)[0]
	n.asked(t, 0)
	q, _ := n.sync.Open(0)
	q.Piece.Body[0]++
	if r, _ := n.sync.Open(0); bytes.Equal(r.Piece.Body, q.Piece.Body) {
		t.Error("a body")
	}
	ok(t, n.SetFilter(filter.Filter{Tags: []string{"x"}}))
	ok(t, n.round(t, 0, newRelay(t)))
	n.asked(t, 0)
	q, _ = n.sync.Open(0)
	q.Wish.Tokens[0][0]++
	if r, _ := n.sync.Open(0); r.Wish.Tokens[0] == q.Wish.Tokens[0] {
		t.Error("tokens")
	}
}

// With honest relays no alarm comes, whatever is lost, doubled, late, or cut off; and at last all hold the same.
func TestHonestRelaysRaiseNothing(t *testing.T) {
	random := rand.New(rand.NewSource(9))
	for range 12 {
		l := nodes(t, 3)
		relays := []*relay.Relay{newRelay(t), newRelay(t)}
		var late [3][2][][]byte
		for step := range 150 {
			i, k := random.Intn(3), random.Intn(2)
			n := l[i]
			switch random.Intn(6) {
			case 0:
				n.Change(put(fmt.Sprint(random.Intn(4)), fmt.Sprint(step), "x"))
			case 1:
				n.disk.Fuse(random.Intn(6))
				n.Change(put("cut", "off"))
				n.disk.Crash([]byte{byte(random.Intn(256))})
				n.open(t, i+1)
			case 2:
				n.SetFilter([]filter.Filter{all, {}, {Tags: []string{"x"}}}[random.Intn(3)])
			default:
				if b, e := n.sync.Ask(k); e == api.OK {
					told, _ := ask.Serve(relays[k], b)
					late[i][k] = append(late[i][k], told)
				}
				if pile := late[i][k]; len(pile) > 0 && random.Intn(3) > 0 {
					n.sync.Take(k, pile[len(pile)-1-random.Intn(min(len(pile), 2))])
				}
			}
			if p, raised := n.Alarm(); raised {
				t.Fatal(step, p)
			}
		}
		for range 120 {
			for i, n := range l {
				ok(t, n.SetFilter(all))
				for k := range relays {
					if e := n.round(t, k, relays[k]); e != api.OK && e != api.ErrState {
						t.Fatal(i, e)
					}
				}
			}
		}
		for i, n := range l {
			if n.Heads() != l[0].Heads() || len(n.Pending()) != 0 || len(n.Items()) != len(l[0].Items()) || !slices.Equal(n.Ring().Epochs, l[0].Ring().Epochs) {
				t.Error(i, n.Heads(), l[0].Heads(), len(n.Pending()))
			}
		}
	}
}
