package device

import (
	"fmt"
	"math"
	"slices"
	"strings"
	"testing"

	"jalousie/api"
	"jalousie/box"
	"jalousie/control"
	"jalousie/disk"
	"jalousie/entry"
	"jalousie/filter"
	"jalousie/group"
	"jalousie/hash"
	"jalousie/index"
	"jalousie/item"
	"jalousie/keys"
	"jalousie/pack"
	"jalousie/proof"
	"jalousie/store"
	"jalousie/vector"
)

var (
	secret = api.Hash{42}
	all    = filter.Filter{All: true}
)

// camp is some devices of one group, and their disks.
type camp struct {
	t       *testing.T
	box     *box.Box
	disks   []*disk.Disk
	devices []*Device
}

func config(i int) Config { return Config{Me: i + 1, Secret: secret, Seed: api.Hash{byte(i + 1)}} }

// pitched is n devices that want all.
func pitched(t *testing.T, ideal bool, n int) *camp {
	t.Helper()
	c := &camp{t: t, box: box.New(ideal, api.Hash{1})}
	for i := range n {
		c.disks = append(c.disks, disk.New(2000))
		c.devices = append(c.devices, nil)
		c.reopen(i)
		c.ok(c.devices[i].SetFilter(all))
	}
	return c
}

func (c *camp) ok(e api.Errno) {
	c.t.Helper()
	if e != api.OK {
		c.t.Fatal(e)
	}
}

func (c *camp) reopen(i int) *Device {
	c.t.Helper()
	d, e := Open(c.box, config(i), c.disks[i])
	c.ok(e)
	c.devices[i] = d
	return d
}

// hand lets the device to take all that from holds, bodies too.
func (c *camp) hand(from, to int) {
	c.t.Helper()
	a, b := c.devices[from], c.devices[to]
	for more := true; more; {
		more = false
		for w, n := range a.Heads() {
			for seq := b.Heads()[w] + 1; seq <= n; seq++ {
				p, _ := a.Piece(w+1, seq)
				more = b.Take(p) == api.OK || more
			}
		}
	}
}

// met is n devices of one group, that know of one another.
func met(t *testing.T, ideal bool, n int) *camp {
	t.Helper()
	c := pitched(t, ideal, n)
	c.ok(c.devices[0].Control(1, 0))
	for i := 1; i < n; i++ {
		c.ok(c.devices[0].Control(2, i+1))
	}
	for i := 1; i < n; i++ {
		c.hand(0, i)
	}
	return c
}

func put(name, value string, tags ...string) entry.Change {
	return entry.Change{Op: 1, Name: name, Tags: tags, Value: value}
}

// state is all that a device tells.
func state(d *Device) string {
	var b strings.Builder
	fmt.Fprint(&b, d.Me(), d.Heads(), d.Group(), d.Ring(), d.Filter(), d.held.lives, d.held.seed, d.held.time)
	for relay := range relays {
		fmt.Fprint(&b, d.Floor(relay))
	}
	p, raised := d.Alarm()
	fmt.Fprint(&b, raised, p.Kind, p.Writer, p.Floor, p.Head, p.Wanted, p.A, p.B)
	for w, n := range d.Heads() {
		for seq := uint64(1); seq <= n; seq++ {
			p, e := d.Piece(w+1, seq)
			fmt.Fprintf(&b, "%x %x %d\n", entry.Bytes(p.Header), p.Body, e)
		}
	}
	for _, r := range d.Rows() {
		fmt.Fprintln(&b, entry.Hash(r.Header), r.Known, r.Change)
	}
	fmt.Fprint(&b, values(d))
	for _, h := range d.Pending() {
		fmt.Fprintln(&b, entry.Hash(h))
	}
	return b.String()
}

// values are the names and values of the items that are shown, sorted.
func values(d *Device) string {
	var l []string
	for _, i := range d.Items() {
		l = append(l, i.Name+"="+i.Value+fmt.Sprint(i.Tags))
	}
	slices.Sort(l)
	return strings.Join(l, " ")
}

func both(t *testing.T, f func(t *testing.T, ideal bool)) {
	t.Run("real", func(t *testing.T) { f(t, false) })
	t.Run("ideal", func(t *testing.T) { f(t, true) })
}

func TestOpenRefuses(t *testing.T) {
	x := box.New(false, api.Hash{})
	for _, me := range []int{0, -1, 7, math.MaxInt} {
		for _, sectors := range []int{1, 100} {
			if d, e := Open(x, Config{Me: me}, disk.New(sectors)); e != api.ErrArg || d != nil {
				t.Error(me, e)
			}
		}
	}
	for me := 1; me <= api.MaxMembers; me++ {
		if d, e := Open(x, Config{Me: me}, disk.New(100)); e != api.OK || d.Me() != me {
			t.Error(me, e)
		}
	}
	if d, e := Open(x, Config{Me: 1}, disk.New(5)); e != api.ErrArg || d != nil {
		t.Error(e)
	}
	gone := disk.New(100)
	gone.Fuse(0)
	gone.Sync()
	if d, e := Open(x, Config{Me: 1}, gone); e != api.ErrLost || d != nil {
		t.Error(e)
	}
}

// byHand packs a record by hand.
func byHand(f func(o *pack.Out)) []byte {
	var o pack.Out
	f(&o)
	b, _ := o.End()
	return b
}

func TestOpenRefusesRecords(t *testing.T) {
	c := met(t, false, 2)
	c.ok(c.devices[0].Change(put("a", "v")))
	p, _ := c.devices[0].Piece(1, 1)
	last, _ := c.devices[0].Piece(1, 3)
	create := packed(record{kind: ofEntry, piece: p})
	torn, stub := p, p
	torn.Body = torn.Body[1:]
	stub.Body = nil
	broken := forged(t, c, c.devices[0], 2, put("a", "v"), nil)
	stubbed := packed(record{kind: ofEntry, piece: index.Piece{Header: broken.Header}})
	unlinked, _ := c.devices[0].Piece(1, 2)
	unlinked.Header.Prev[0]++
	alarm := packed(record{kind: ofAlarm, alarm: proof.Proof{Kind: 3, Writer: 1, Floor: 2}})
	life := packed(record{kind: ofLife, lives: 3})
	for i, l := range [][][]byte{
		{nil}, {{0}}, {{7}}, {{9, 9, 9}}, {append(slices.Clone(life), 0)}, {life, life}, {alarm, alarm}, {create, create},
		{packed(record{kind: ofEntry, piece: torn})}, {packed(record{kind: ofEntry, piece: stub})}, {packed(record{kind: ofEntry, piece: last})},
		{create, packed(record{kind: ofEntry, piece: unlinked})}, {byHand(func(o *pack.Out) { o.Num(ofBody); o.Num(0); o.Num(1); o.Text([]byte("x")) })},
		{create, byHand(func(o *pack.Out) { o.Num(ofBody); o.Num(1); o.Num(0); o.Text([]byte("x")) })},
		append(kept(c.devices[0]), stubbed, byHand(func(o *pack.Out) { o.Num(ofBody); o.Num(2); o.Num(1); o.Text([]byte("x")) })),
		append(kept(c.devices[0]), byHand(func(o *pack.Out) { o.Num(ofEntry); o.Text(entry.Bytes(broken.Header)); o.Text([]byte("x")) })),
		{packed(record{kind: ofBody, piece: last})}, {create, packed(record{kind: ofBody, piece: p})}, {create[:len(create)-1]},
		{byHand(func(o *pack.Out) { o.Num(ofFilter); o.Flag(true); o.Num(1); o.Text([]byte("a")) })},
		{byHand(func(o *pack.Out) { o.Num(ofFilter); o.Flag(false); o.Num(2); o.Text([]byte("b")); o.Text([]byte("a")) })},
		{byHand(func(o *pack.Out) { o.Num(ofFloor); o.Raw([]byte{4, 0, 0, 0, 0, 0, 0}) })},
		{byHand(func(o *pack.Out) { o.Num(ofAlarm); o.Text([]byte{3, 1, 5, 5}) })},
		{byHand(func(o *pack.Out) { o.Num(ofLife); o.Num(0) })}, {byHand(func(o *pack.Out) { o.Num(ofLife); o.Num(1 << 31) })},
	} {
		d := disk.New(400)
		s, _ := store.Open(d)
		c.ok(s.Add(l...))
		if v, e := Open(c.box, config(0), d); e != api.ErrForm || v != nil {
			t.Error(i, e)
		}
	}
}

// kept is the entries that a device holds, as records.
func kept(d *Device) [][]byte {
	return slices.DeleteFunc(d.store.Records(), func(b []byte) bool { return b[0] != ofEntry })
}

func TestTheLastWriter(t *testing.T) {
	c := met(t, true, 2)
	d := c.devices[0]
	p := forged(t, c, d, 6, put("a", "v"), nil)
	c.ok(d.Take(index.Piece{Header: p.Header}))
	c.ok(d.Take(p))
	for _, d := range []*Device{d, c.reopen(0)} {
		if q, e := d.Piece(6, 1); e != api.OK || !entry.Same(q.Header, p.Header) || !slices.Equal(q.Body, p.Body) {
			t.Error(e)
		}
		if len(d.Rows()) != 0 || len(d.Items()) != 0 || len(d.Pending()) != 0 {
			t.Error("what one says that is no member counts")
		}
	}
}

func TestANewDeviceHasNothing(t *testing.T) {
	d, e := Open(box.New(true, api.Hash{}), Config{Me: 3, Secret: secret}, disk.New(100))
	if e != api.OK || d.Me() != 3 || d.Heads() != (vector.Vector{}) || d.Group() != (group.Group{}) || d.Over() {
		t.Error(e)
	}
	if r := d.Ring(); r.Group != hash.Derive(secret, "jalousie group") || len(r.Epochs) != 0 {
		t.Error(r)
	}
	if _, raised := d.Alarm(); raised || len(d.Rows()) != 0 || len(d.Items()) != 0 || len(d.Pending()) != 0 || d.Filter().All || len(d.Filter().Tags) != 0 {
		t.Error("something is there")
	}
	if w := d.Wish(); w.All || len(w.Tokens) != 0 {
		t.Error(w)
	}
	for _, relay := range []int{-1, 0, 3, 4, math.MinInt} {
		if d.Floor(relay) != (vector.Vector{}) {
			t.Error(relay)
		}
	}
	for _, c := range [][2]int{{0, 1}, {7, 1}, {-1, 0}, {3, 1}, {1, 0}} {
		if p, e := d.Piece(c[0], uint64(c[1])); e != api.ErrNone || !entry.Same(p.Header, entry.Header{}) || len(p.Body) != 0 {
			t.Error(c, e)
		}
	}
}

func TestAGroupAndAnItem(t *testing.T) {
	both(t, func(t *testing.T, ideal bool) {
		c := pitched(t, ideal, 1)
		d := c.devices[0]
		c.ok(d.Control(1, 0))
		c.ok(d.Change(put("a", "v", "x", "y")))
		if values(d) != "a=v[x y]" || d.Heads() != (vector.Vector{2}) || len(d.Pending()) != 0 {
			t.Error(values(d))
		}
		if g := d.Group(); g.Owner != 1 || g.Epoch != 1 || !group.Is(g, 1) || g.Seen != 1 {
			t.Error(g)
		}
		seed := config(0).Seed
		for i, key := range d.Ring().Epochs {
			if want, _ := control.Key(seed, i); key != want || len(d.Ring().Epochs) != 2 {
				t.Error(i)
			}
		}
		create, _ := d.Piece(1, 1)
		change, _ := d.Piece(1, 2)
		if h := create.Header; !h.Control || h.Epoch != 0 || h.Time != 1 || h.Prev != (api.Hash{}) || h.Item != (api.Token{}) || !index.Whole(create) || !d.Knows(h) {
			t.Error(h)
		}
		own := keys.Of(d.Ring().Group)
		h := change.Header
		if h.Control || h.Epoch != 1 || h.Time != 2 || h.Prev != entry.Hash(create.Header) || h.Knows != [6]uint64{1} || !index.Whole(change) || !d.Knows(h) {
			t.Error(h)
		}
		if h.Item != keys.Item(c.box, own, "a") || !slices.Equal(h.Tokens, keys.Tokens(c.box, own, []string{"x", "y"})) {
			t.Error(h)
		}
		c.ok(d.Change(entry.Change{Op: 2, Name: "a"}))
		if values(d) != "" || len(d.Rows()) != 2 {
			t.Error(values(d))
		}
	})
}

func TestControlRefuses(t *testing.T) {
	c := met(t, false, 2)
	owner, member := c.devices[0], c.devices[1]
	before, other := state(owner), state(member)
	for i, k := range []struct {
		d          *Device
		op, member int
		want       api.Errno
	}{
		{owner, 0, 0, api.ErrArg}, {owner, 6, 0, api.ErrArg}, {owner, 1, 1, api.ErrArg}, {owner, 2, 0, api.ErrArg}, {owner, 3, 7, api.ErrArg},
		{owner, 1, 0, api.ErrState}, {owner, 2, 2, api.ErrState}, {owner, 3, 1, api.ErrState}, {owner, 5, 3, api.ErrState},
		{member, 4, 0, api.ErrState}, {member, 2, 3, api.ErrState}, {member, 1, 0, api.ErrState}, {member, 1, 5, api.ErrArg},
	} {
		if e := k.d.Control(k.op, k.member); e != k.want {
			t.Error(i, e)
		}
	}
	if state(owner) != before || state(member) != other {
		t.Error("what was refused has changed something")
	}
}

func TestChangeRefuses(t *testing.T) {
	c := pitched(t, false, 2)
	d := c.devices[0]
	if e := d.Change(entry.Change{}); e != api.ErrArg {
		t.Error(e)
	}
	if e := d.Change(put("a", "v")); e != api.ErrState {
		t.Error("ahead of a group", e)
	}
	c.ok(d.Control(1, 0))
	c.hand(0, 1)
	if e := c.devices[1].Change(put("a", "v")); e != api.ErrState {
		t.Error("no member", e)
	}
	for _, k := range []entry.Change{put("", "v"), put("a", strings.Repeat("x", 513)), put("a", "v", "b", "a"), {Op: 2, Name: "a", Value: "x"}} {
		if e := d.Change(k); e != api.ErrArg {
			t.Error(k, e)
		}
	}
	if d.Heads() != (vector.Vector{1}) {
		t.Error(d.Heads())
	}
}

func TestMembersReadOneAnother(t *testing.T) {
	both(t, func(t *testing.T, ideal bool) {
		c := met(t, ideal, 3)
		c.ok(c.devices[1].Change(put("a", "of 2", "x")))
		c.ok(c.devices[2].Change(put("b", "of 3", "y")))
		c.hand(1, 0)
		c.hand(2, 0)
		c.ok(c.devices[0].Change(entry.Change{Op: 3, Name: "a", Tags: []string{"z"}}))
		c.hand(0, 1)
		c.hand(0, 2)
		for i, d := range c.devices {
			if values(d) != "a=of 2[z] b=of 3[y]" || len(d.Pending()) != 0 || d.Heads() != (vector.Vector{4, 1, 1}) {
				t.Error(i, values(d), d.Heads())
			}
			if d.Group() != c.devices[0].Group() || len(d.Ring().Epochs) != 4 || !slices.Equal(d.Ring().Epochs, c.devices[0].Ring().Epochs) {
				t.Error(i, d.Group())
			}
		}
		p, _ := c.devices[0].Piece(1, 4)
		if p.Header.Knows != [6]uint64{3, 1, 1} || p.Header.Time != 5 || p.Header.Epoch != 3 {
			t.Error(p.Header)
		}
	})
}

func TestRemoveCutsAndShutsOut(t *testing.T) {
	both(t, func(t *testing.T, ideal bool) {
		c := met(t, ideal, 3)
		c.ok(c.devices[1].Change(put("a", "counts")))
		c.hand(1, 0)
		c.hand(1, 2)
		c.ok(c.devices[1].Change(put("b", "doesn't")))
		c.ok(c.devices[0].Control(3, 2))
		c.ok(c.devices[0].Change(put("c", "secret")))
		c.hand(1, 0)
		if g := c.devices[0].Group(); g.Cut[1] != 1 || !g.Gone[1] || group.Is(g, 2) || values(c.devices[0]) != "a=counts[] c=secret[]" {
			t.Error(g, values(c.devices[0]))
		}
		c.hand(0, 2)
		if values(c.devices[2]) != "a=counts[] c=secret[]" || c.devices[2].Heads() != (vector.Vector{5, 2}) {
			t.Error(values(c.devices[2]), c.devices[2].Heads())
		}
		c.hand(0, 1)
		gone := c.devices[1]
		if len(gone.Ring().Epochs) != 4 || gone.Heads()[0] != 4 || group.Is(gone.Group(), 2) {
			t.Error("one that is gone got a key", len(gone.Ring().Epochs), gone.Heads())
		}
		secretPiece, _ := c.devices[0].Piece(1, 5)
		if e := gone.Take(secretPiece); e != api.ErrSeal || gone.Knows(secretPiece.Header) {
			t.Error(e)
		}
		if e := gone.Change(put("d", "x")); e != api.ErrState {
			t.Error(e)
		}
	})
}

func TestHandOver(t *testing.T) {
	both(t, func(t *testing.T, ideal bool) {
		c := met(t, ideal, 3)
		c.ok(c.devices[0].Control(5, 2))
		c.hand(0, 1)
		c.ok(c.devices[1].Control(4, 0))
		c.ok(c.devices[1].Control(2, 5))
		c.hand(1, 0)
		c.hand(1, 2)
		for i, d := range c.devices {
			if d.Group().Owner != 2 || d.Group().Epoch != 5 || len(d.Ring().Epochs) != 6 {
				t.Error(i, d.Group())
			}
			for epoch, key := range d.Ring().Epochs {
				if want, _ := control.Key(config(0).Seed, epoch); key != want {
					t.Error(i, "another seed's key", epoch)
				}
			}
		}
		if again := c.reopen(1); again.held.seed != config(0).Seed || c.devices[2].held.seed != config(2).Seed {
			t.Error("the seed")
		}
	})
}

func TestTheLastEpoch(t *testing.T) {
	c := pitched(t, false, 1)
	c.disks[0] = disk.New(api.MaxSectors)
	d := c.reopen(0)
	c.ok(d.Control(1, 0))
	for d.Group().Epoch < api.MaxEpoch {
		c.ok(d.Control(4, 0))
	}
	if e := d.Control(4, 0); e != api.ErrSpent {
		t.Error(e)
	}
	if e := d.Control(1, 0); e != api.ErrState {
		t.Error(e)
	}
	for i, key := range d.Ring().Epochs {
		if want, _ := control.Key(config(0).Seed, i); key != want {
			t.Fatal(i)
		}
	}
	c.ok(d.Change(put("a", "v")))
	if p, _ := d.Piece(1, 256); p.Header.Epoch != api.MaxEpoch {
		t.Error(p.Header)
	}
}

// forged is an entry of a writer behind what d holds, made with the group's keys, turned by f.
func forged(t *testing.T, c *camp, d *Device, writer int, k entry.Change, f func(h *entry.Header)) index.Piece {
	t.Helper()
	own := keys.Of(d.Ring().Group)
	chain := &d.held.chains[writer-1]
	h := entry.Header{
		Writer: writer, Seq: chain.Head() + 1, Prev: chain.Tip(), Epoch: len(d.Ring().Epochs) - 1, Time: d.held.time + 1,
		Item: keys.Item(c.box, own, k.Name), Tokens: keys.Tokens(c.box, own, k.Tags), Knows: d.Heads(),
	}
	if f != nil {
		f(&h)
	}
	s, _ := proof.Keys(d.Ring(), h)
	b, e := entry.PackChange(k)
	if e != api.OK {
		b = []byte(k.Value)
	}
	h, body, e := entry.Make(c.box, s, h, b)
	if e != api.OK {
		t.Fatal(e)
	}
	return index.Piece{Header: h, Body: body}
}

func TestATimeThatIsSpent(t *testing.T) {
	c := met(t, false, 2)
	d := c.devices[0]
	c.ok(d.Take(forged(t, c, d, 2, put("a", "v"), func(h *entry.Header) { h.Time = 1<<40 - 1 })))
	c.ok(d.Change(put("b", "the last")))
	if p, _ := d.Piece(1, 3); p.Header.Time != 1<<40 {
		t.Error(p.Header.Time)
	}
	if e := d.Change(put("c", "v")); e != api.ErrSpent {
		t.Error(e)
	}
	if e := d.Control(4, 0); e != api.ErrSpent {
		t.Error(e)
	}
	if e := d.Control(2, 2); e != api.ErrState {
		t.Error("the group is asked first", e)
	}
}

func TestTakeRefuses(t *testing.T) {
	both(t, func(t *testing.T, ideal bool) {
		c := met(t, ideal, 3)
		d := c.devices[0]
		c.ok(c.devices[1].Change(put("a", "1", "x")))
		c.ok(c.devices[1].Change(put("a", "2", "x")))
		c.ok(c.devices[1].Control(1, 0) ^ api.ErrState)
		first, _ := c.devices[1].Piece(2, 1)
		second, _ := c.devices[1].Piece(2, 2)
		unformed, wrong, torn, wrongFar := first, first, first, second
		unformed.Header.Size = 1
		wrong.Header.Time++
		wrongFar.Header.Time++
		torn.Body = slices.Clone(first.Body)
		torn.Body[0]++
		noKeys := forged(t, c, d, 2, put("a", "x"), nil)
		noKeys.Header.Epoch = 200
		c.hand(1, 2)
		c.ok(c.devices[2].Change(put("a", "3", "x")))
		early, _ := c.devices[2].Piece(3, 1)
		ctl, _ := d.Piece(1, 1)
		ctlStub := index.Piece{Header: forgedControl(t, c, d, 2, nil).Header}
		before := state(d)
		for i, k := range []struct {
			p    index.Piece
			want api.Errno
		}{
			{unformed, api.ErrArg}, {index.Piece{}, api.ErrArg}, {ctl, api.ErrOld}, {index.Piece{Header: ctl.Header}, api.ErrOld},
			{wrong, api.ErrSeal}, {wrongFar, api.ErrSeal}, {noKeys, api.ErrSeal}, {second, api.ErrState}, {early, api.ErrState},
			{torn, api.ErrForm}, {index.Piece{Header: first.Header, Body: []byte{1}}, api.ErrForm}, {ctlStub, api.ErrForm},
		} {
			if e := d.Take(k.p); e != k.want {
				t.Error(i, e)
			}
		}
		if state(d) != before {
			t.Error("what was refused has changed something")
		}
		c.ok(d.Take(first))
		c.ok(d.Take(second))
		c.ok(d.Take(early))
		for _, p := range []index.Piece{first, second, early, {Header: first.Header}, torn} {
			if e := d.Take(p); e != api.ErrOld {
				t.Error(e)
			}
		}
		if values(d) != "a=3[x]" {
			t.Error(values(d))
		}
	})
}

// forgedControl is a control entry of a writer with any text.
func forgedControl(t *testing.T, c *camp, d *Device, writer int, text []byte) index.Piece {
	t.Helper()
	chain := &d.held.chains[writer-1]
	h := entry.Header{Writer: writer, Seq: chain.Head() + 1, Prev: chain.Tip(), Control: true, Time: d.held.time + 1, Knows: d.Heads()}
	h, body, e := entry.Make(c.box, keys.Of(d.Ring().Group), h, text)
	if e != api.OK {
		t.Fatal(e)
	}
	return index.Piece{Header: h, Body: body}
}

func TestControlsThatChangeNothing(t *testing.T) {
	both(t, func(t *testing.T, ideal bool) {
		c := met(t, ideal, 2)
		d := c.devices[0]
		g, ring := d.Group(), d.Ring()
		rotate := control.Control{Op: 4, Slots: control.Slots(c.box, secret, 2, g.Members, g.Epoch+1, api.Hash{9})}
		said, _ := control.Bytes(rotate)
		for _, text := range [][]byte{nil, []byte("nonsense"), said} {
			p := forgedControl(t, c, d, 2, text)
			c.ok(d.Take(p))
			if q, e := d.Piece(2, p.Header.Seq); e != api.OK || !entry.Same(p.Header, q.Header) {
				t.Error(e)
			}
		}
		if d.Group() != g || !slices.Equal(d.Ring().Epochs, ring.Epochs) || len(d.Rows()) != 0 || d.Heads()[1] != 3 {
			t.Error("a control that isn't applied has changed something")
		}
		before := state(d)
		if state(c.reopen(0)) != before {
			t.Error("opened again")
		}
	})
}

func TestASlotThatDoesntOpenGivesNoKey(t *testing.T) {
	c := met(t, false, 2)
	d := c.devices[1]
	g := d.Group()
	next := control.Control{Op: 4, Slots: control.Slots(c.box, secret, 1, g.Members, g.Epoch+2, api.Hash{9})}
	said, _ := control.Bytes(next)
	c.ok(d.Take(forgedControl(t, c, d, 1, said)))
	if d.Group().Epoch != 3 || len(d.Ring().Epochs) != 3 {
		t.Error(d.Group(), len(d.Ring().Epochs))
	}
	c.ok(d.Change(put("a", "v")))
	if p, _ := d.Piece(2, 1); p.Header.Epoch != 2 {
		t.Error("not the last epoch that has a key", p.Header.Epoch)
	}
	another := control.Control{Op: 4, Slots: control.Slots(c.box, secret, 1, g.Members, 4, api.Hash{9})}
	said, _ = control.Bytes(another)
	c.ok(d.Take(forgedControl(t, c, d, 1, said)))
	for i, key := range d.Ring().Epochs {
		if want, _ := control.Back(api.Hash{9}, 4, i); key != want || len(d.Ring().Epochs) != 5 {
			t.Error(i)
		}
	}
}

func TestAMemberWithoutAKeyChangesNothing(t *testing.T) {
	c := pitched(t, false, 2)
	c.ok(c.devices[0].Control(1, 0))
	d := c.devices[1]
	c.hand(0, 1)
	g := c.devices[0].Group()
	g.Members[1] = true
	add := control.Control{Op: 2, Member: 2, Slots: control.Slots(c.box, secret, 1, g.Members, 77, api.Hash{9})}
	said, _ := control.Bytes(add)
	c.ok(d.Take(forgedControl(t, c, d, 1, said)))
	if e := d.Change(put("a", "v")); !group.Is(d.Group(), 2) || e != api.ErrState {
		t.Error(d.Group(), e)
	}
}

func TestRowsThatArentKnown(t *testing.T) {
	both(t, func(t *testing.T, ideal bool) {
		c := met(t, ideal, 2)
		d := c.devices[0]
		k := put("a", "v", "x", "y")
		own := keys.Of(d.Ring().Group)
		for i, p := range []index.Piece{
			forged(t, c, d, 2, k, func(h *entry.Header) { h.Item = api.Token{1} }),
			forged(t, c, d, 2, k, func(h *entry.Header) { h.Tokens = h.Tokens[:1] }),
			forged(t, c, d, 2, k, func(h *entry.Header) { h.Tokens = keys.Tokens(c.box, own, []string{"x", "z"}) }),
			forged(t, c, d, 2, k, func(h *entry.Header) { h.Tokens = nil }),
			forged(t, c, d, 2, entry.Change{Value: "no change"}, nil),
		} {
			p.Header.Seq, p.Header.Prev = d.Heads()[1]+1, d.held.chains[1].Tip()
			p.Header.Knows[1] = d.Heads()[1]
			p = reforged(t, c, d, p, i, k)
			c.ok(d.Take(p))
			r := d.Rows()[i]
			if r.Known || !entry.Same(r.Header, p.Header) || r.Change.Op != 0 || !item.Formed(r) {
				t.Error(i, r)
			}
		}
		if len(d.Items()) != 0 || len(d.Pending()) != 5 {
			t.Error(values(d), len(d.Pending()))
		}
	})
}

// reforged is a forged entry, made anew where its header was turned.
func reforged(t *testing.T, c *camp, d *Device, p index.Piece, i int, k entry.Change) index.Piece {
	t.Helper()
	b, _ := entry.PackChange(k)
	if i == 4 {
		b = []byte("no change")
	}
	s, _ := proof.Keys(d.Ring(), p.Header)
	h, body, e := entry.Make(c.box, s, p.Header, b)
	if e != api.OK {
		t.Fatal(e)
	}
	return index.Piece{Header: h, Body: body}
}

func TestBodiesThatComeLater(t *testing.T) {
	both(t, func(t *testing.T, ideal bool) {
		c := met(t, ideal, 2)
		d := c.devices[0]
		c.ok(c.devices[1].Change(put("a", "1", "x")))
		c.ok(c.devices[1].Change(put("b", "2")))
		first, _ := c.devices[1].Piece(2, 1)
		second, _ := c.devices[1].Piece(2, 2)
		c.ok(d.Take(index.Piece{Header: first.Header}))
		c.ok(d.Take(index.Piece{Header: second.Header}))
		if l := d.Pending(); len(l) != 2 || !entry.Same(l[0], first.Header) || values(d) != "" || d.Rows()[0].Known {
			t.Error(l)
		}
		if p, e := d.Piece(2, 1); e != api.OK || len(p.Body) != 0 {
			t.Error(e)
		}
		if e := d.Take(index.Piece{Header: first.Header, Body: second.Body}); e != api.ErrOld {
			t.Error("another body", e)
		}
		c.ok(d.Take(second))
		if l := d.Pending(); len(l) != 1 || values(d) != "b=2[]" || d.Rows()[0].Known || !d.Rows()[1].Known {
			t.Error(l, values(d))
		}
		before := state(d)
		if state(c.reopen(0)) != before {
			t.Error("opened again")
		}
		d = c.devices[0]
		c.ok(d.Take(first))
		if e := d.Take(first); e != api.ErrOld || values(d) != "a=1[x] b=2[]" || len(d.Pending()) != 0 {
			t.Error(e, values(d))
		}
		c.ok(d.SetFilter(filter.Filter{Tags: []string{"x"}}))
		if values(d) != "a=1[x]" || !slices.Equal(d.Wish().Tokens, first.Header.Tokens) {
			t.Error(values(d))
		}
	})
}

func TestForkRaisesTheAlarm(t *testing.T) {
	both(t, func(t *testing.T, ideal bool) {
		c := met(t, ideal, 2)
		d := c.devices[0]
		p := forged(t, c, d, 2, put("a", "1"), nil)
		q := forged(t, c, d, 2, put("a", "2"), nil)
		wrong := q
		wrong.Header.Code[0]++
		c.ok(d.Take(p))
		if e := d.Take(wrong); e != api.ErrSeal {
			t.Error(e)
		}
		if e := d.Take(index.Piece{Header: q.Header}); e != api.ErrFork {
			t.Error(e)
		}
		a, raised := d.Alarm()
		if !raised || a.Kind != 1 || !entry.Same(a.A, p.Header) || !entry.Same(a.B, q.Header) || !proof.Check(c.box, d.Ring(), a) {
			t.Error(raised, a)
		}
		before := state(d)
		if e := d.Take(forged2(t, c, d, p)); e != api.ErrFork || state(d) != before {
			t.Error("a second alarm", e)
		}
		if e := d.Raise(proof.Proof{Kind: 3, Writer: 1, Floor: 2}); e != api.ErrOld {
			t.Error(e)
		}
		if state(c.reopen(0)) != before {
			t.Error("opened again")
		}
	})
}

// forged2 is another header of p's number.
func forged2(t *testing.T, c *camp, d *Device, p index.Piece) index.Piece {
	t.Helper()
	h := p.Header
	h.Time += 7
	s, _ := proof.Keys(d.Ring(), h)
	h, body, e := entry.Make(c.box, s, h, []byte("x"))
	if e != api.OK {
		t.Fatal(e)
	}
	return index.Piece{Header: h, Body: body}
}

func TestABrokenLinkRaisesTheAlarm(t *testing.T) {
	both(t, func(t *testing.T, ideal bool) {
		c := met(t, ideal, 2)
		d := c.devices[0]
		p := forged(t, c, d, 2, put("a", "1"), nil)
		c.ok(d.Take(p))
		q := forged(t, c, d, 2, put("a", "2"), func(h *entry.Header) { h.Prev[0]++ })
		if e := d.Take(q); e != api.ErrChain || d.Heads()[1] != 1 {
			t.Error(e)
		}
		a, raised := d.Alarm()
		if !raised || a.Kind != 2 || !entry.Same(a.A, p.Header) || !entry.Same(a.B, q.Header) || !proof.Check(c.box, d.Ring(), a) {
			t.Error(raised, a)
		}
	})
}

func TestRaise(t *testing.T) {
	c := met(t, false, 2)
	d := c.devices[0]
	p, _ := d.Piece(1, 1)
	for i, q := range []proof.Proof{{}, {Kind: 3, Writer: 1, Floor: 2, Head: 2}, {Kind: 1, A: p.Header, B: p.Header}, {Kind: 4, A: p.Header}} {
		if e := d.Raise(q); e != api.ErrArg {
			t.Error(i, e)
		}
	}
	h := forged(t, c, d, 2, put("a", "v", "x"), nil).Header
	q := proof.Proof{Kind: 4, A: h, Wanted: slices.Clone(h.Tokens)}
	c.ok(d.Raise(q))
	q.Wanted[0][0]++
	q.A.Tokens[0][0] += 2
	a, raised := d.Alarm()
	if !raised || a.Wanted[0] == q.Wanted[0] || a.A.Tokens[0] == q.A.Tokens[0] || !proof.Check(c.box, d.Ring(), a) {
		t.Error("the alarm shares memory")
	}
	a.Wanted[0][0]++
	if b, _ := d.Alarm(); b.Wanted[0] == a.Wanted[0] {
		t.Error("the alarm is handed out")
	}
	if e := d.Raise(proof.Proof{Kind: 3, Writer: 1, Floor: 2}); e != api.ErrOld {
		t.Error(e)
	}
	if e := d.Raise(proof.Proof{}); e != api.ErrArg {
		t.Error(e)
	}
}

func TestSetFilter(t *testing.T) {
	c := met(t, true, 1)
	d := c.devices[0]
	c.ok(d.Change(put("a", "1", "x")))
	c.ok(d.Change(put("b", "2", "y")))
	for _, f := range []filter.Filter{{All: true, Tags: []string{"a"}}, {Tags: []string{"b", "a"}}, {Tags: []string{""}}} {
		if e := d.SetFilter(f); e != api.ErrArg || !d.Filter().All {
			t.Error(f, e)
		}
	}
	f := filter.Filter{Tags: []string{"x"}}
	c.ok(d.SetFilter(f))
	f.Tags[0] = "y"
	d.Filter().Tags[0] = "y"
	if values(d) != "a=1[x]" || values(c.reopen(0)) != "a=1[x]" {
		t.Error(values(d))
	}
	c.ok(c.devices[0].SetFilter(filter.Filter{}))
	if values(c.reopen(0)) != "" {
		t.Error(values(d))
	}
}

func TestLift(t *testing.T) {
	c := met(t, false, 1)
	d := c.devices[0]
	for _, relay := range []int{-1, 4, math.MaxInt} {
		if e := d.Lift(relay, vector.Vector{}); e != api.ErrArg {
			t.Error(relay, e)
		}
	}
	if e := d.Lift(0, vector.Vector{5: api.MaxSeq + 1}); e != api.ErrArg || d.Floor(0) != (vector.Vector{}) {
		t.Error(e)
	}
	c.ok(d.Lift(3, vector.Vector{1, 5, api.MaxSeq}))
	c.ok(d.Lift(3, vector.Vector{2, 4, 1}))
	c.ok(d.Lift(0, vector.Vector{9}))
	room := d.store.Room()
	c.ok(d.Lift(3, vector.Vector{1, 1}))
	if d.store.Room() != room {
		t.Error("what is the same is kept")
	}
	for _, d := range []*Device{d, c.reopen(0)} {
		if d.Floor(3) != (vector.Vector{2, 5, api.MaxSeq}) || d.Floor(0) != (vector.Vector{9}) || d.Floor(1) != (vector.Vector{}) || d.Floor(4) != (vector.Vector{}) {
			t.Error(d.Floor(3), d.Floor(0))
		}
	}
}

func TestBegin(t *testing.T) {
	c := met(t, false, 1)
	for want := uint64(1); want < 5; want++ {
		if n, e := c.devices[0].Begin(); e != api.OK || n != want {
			t.Error(n, e)
		}
		if want%2 == 0 {
			c.reopen(0)
		}
	}
	d := disk.New(100)
	s, _ := store.Open(d)
	s.Add(packed(record{kind: ofLife, lives: 1<<31 - 2}))
	v, e := Open(c.box, config(0), d)
	c.ok(e)
	if n, e := v.Begin(); e != api.OK || n != 1<<31-1 {
		t.Error(n, e)
	}
	if n, e := v.Begin(); e != api.ErrSpent || n != 0 {
		t.Error(n, e)
	}
}

// busy is a device that holds some of everything.
func busy(t *testing.T, ideal bool) *camp {
	t.Helper()
	c := met(t, ideal, 3)
	d := c.devices[0]
	for i := range 3 {
		c.ok(c.devices[1].Change(put("a", fmt.Sprint(i), "x")))
		p, _ := c.devices[1].Piece(2, uint64(i+1))
		c.ok(d.Take(index.Piece{Header: p.Header}))
		if i != 1 {
			c.ok(d.Take(p))
		}
		c.ok(d.Lift(i, vector.Vector{uint64(i)}))
		c.ok(d.Lift(i, vector.Vector{uint64(i), 3}))
		c.ok(d.SetFilter(filter.Filter{Tags: []string{fmt.Sprint(i), "x"}}))
		d.Begin()
		c.ok(d.Change(put("b", fmt.Sprint(i), "x")))
	}
	c.ok(d.Control(3, 3))
	c.ok(d.Control(5, 2))
	c.ok(d.Raise(proof.Proof{Kind: 3, Writer: 1, Floor: 2}))
	return c
}

func TestCompactHoldsTheSame(t *testing.T) {
	both(t, func(t *testing.T, ideal bool) {
		c := busy(t, ideal)
		d := c.devices[0]
		before, room := state(d), d.store.Room()
		if state(c.reopen(0)) != before {
			t.Error("opened again")
		}
		d = c.devices[0]
		c.ok(d.Compact())
		if state(d) != before || d.store.Room() <= room {
			t.Error("compacted", d.store.Room(), room)
		}
		if state(c.reopen(0)) != before {
			t.Error("compacted, and opened again")
		}
		room = c.devices[0].store.Room()
		c.ok(c.devices[0].Compact())
		if c.devices[0].store.Room() != room || state(c.reopen(0)) != before {
			t.Error("compacted twice")
		}
	})
}

func TestAFullStoreHoldsNothingMore(t *testing.T) {
	c := pitched(t, false, 1)
	c.disks[0] = disk.New(24)
	d := c.reopen(0)
	c.ok(d.Control(1, 0))
	before := state(d)
	if e := d.Change(put("a", strings.Repeat("x", 512))); e != api.ErrFull || state(d) != before || d.Over() {
		t.Error(e)
	}
	for d.store.Room() > 3 {
		d.Begin()
	}
	c.ok(d.Compact())
	for d.store.Room() > 3 {
		d.Begin()
	}
	before = state(d)
	if e := d.SetFilter(filter.Filter{Tags: []string{"abc"}}); e != api.ErrFull {
		t.Error(e)
	}
	if e := d.Lift(0, vector.Vector{1}); e != api.ErrFull {
		t.Error(e)
	}
	if e := d.Raise(proof.Proof{Kind: 3, Writer: 1, Floor: 2}); e != api.ErrFull {
		t.Error(e)
	}
	if _, raised := d.Alarm(); raised || state(d) != before {
		t.Error("what was refused has changed something")
	}
	c.ok(d.Lift(0, vector.Vector{}))
}

func TestADeviceThatIsOver(t *testing.T) {
	c := met(t, false, 2)
	d := c.devices[0]
	p := forged(t, c, d, 2, put("a", "1"), nil)
	q := forged(t, c, d, 2, put("a", "2"), nil)
	c.ok(d.Take(index.Piece{Header: p.Header}))
	next := forged(t, c, d, 2, put("a", "3"), nil)
	broken := forged(t, c, d, 2, put("a", "3"), func(h *entry.Header) { h.Prev[0]++ })
	ctl, _ := d.Piece(1, 1)
	c.disks[0].Fuse(0)
	if e := d.Change(put("b", "v")); e != api.ErrLost || !d.Over() {
		t.Fatal(e)
	}
	before := state(d)
	for i, k := range []struct{ got, want api.Errno }{
		{d.Control(4, 0), api.ErrLost}, {d.Control(9, 0), api.ErrArg}, {d.Control(2, 2), api.ErrState},
		{d.Change(put("b", "v")), api.ErrLost}, {d.Change(entry.Change{}), api.ErrArg}, {d.SetFilter(all), api.ErrLost}, {d.SetFilter(filter.Filter{All: true, Tags: []string{"a"}}), api.ErrArg},
		{d.Take(next), api.ErrLost}, {d.Take(p), api.ErrLost}, {d.Take(ctl), api.ErrOld}, {d.Take(q), api.ErrLost}, {d.Take(broken), api.ErrLost},
		{d.Take(index.Piece{}), api.ErrArg}, {d.Take(index.Piece{Header: next.Header, Body: []byte{1}}), api.ErrForm},
		{d.Raise(proof.Proof{Kind: 3, Writer: 1, Floor: 2}), api.ErrLost}, {d.Raise(proof.Proof{}), api.ErrArg},
		{d.Lift(0, vector.Vector{1}), api.ErrLost}, {d.Lift(0, vector.Vector{}), api.ErrLost}, {d.Lift(4, vector.Vector{}), api.ErrArg},
		{d.Compact(), api.ErrLost}, {second(d.Begin()), api.ErrLost},
	} {
		if k.got != k.want {
			t.Errorf("%d: %d, want %d", i, k.got, k.want)
		}
	}
	if n, _ := d.Begin(); n != 0 {
		t.Error("a life beside an error", n)
	}
	if state(d) != before {
		t.Error("something has changed")
	}
}

func second(_ uint64, e api.Errno) api.Errno { return e }

// Each call is cut off at each call of the disk: behind the crash it is done, or it isn't.
func TestACutOffCallIsDoneOrNot(t *testing.T) {
	calls := map[string]func(c *camp, late index.Piece) api.Errno{
		"control": func(c *camp, _ index.Piece) api.Errno { return c.devices[0].Control(4, 0) },
		"change": func(c *camp, _ index.Piece) api.Errno {
			return c.devices[0].Change(put("y", strings.Repeat("v", 300)))
		},
		"filter": func(c *camp, _ index.Piece) api.Errno { return c.devices[0].SetFilter(filter.Filter{}) },
		"take": func(c *camp, _ index.Piece) api.Errno {
			return c.devices[0].Take(forged(t, c, c.devices[0], 2, put("z", "new", "x"), nil))
		},
		"stub": func(c *camp, _ index.Piece) api.Errno {
			return c.devices[0].Take(index.Piece{Header: forged(t, c, c.devices[0], 2, put("z", "new", "x"), nil).Header})
		},
		"body": func(c *camp, late index.Piece) api.Errno { return c.devices[0].Take(late) },
		"raise": func(c *camp, _ index.Piece) api.Errno {
			return c.devices[0].Raise(proof.Proof{Kind: 3, Writer: 1, Floor: 2})
		},
		"fork": func(c *camp, late index.Piece) api.Errno {
			e := c.devices[0].Take(forged2(t, c, c.devices[0], late))
			if e == api.ErrFork {
				return api.OK
			}
			return e
		},
		"lift":    func(c *camp, _ index.Piece) api.Errno { return c.devices[0].Lift(1, vector.Vector{9}) },
		"begin":   func(c *camp, _ index.Piece) api.Errno { return second(c.devices[0].Begin()) },
		"compact": func(c *camp, _ index.Piece) api.Errno { return c.devices[0].Compact() },
	}
	for name, call := range calls {
		c, late := ready(t)
		c.ok(call(c, late))
		done := state(c.devices[0])
		for fuse := range 12 {
			for _, fate := range [][]byte{nil, {64}, {20, 64}, {150}, {64, 0, 170}} {
				cutOff(t, fmt.Sprint(name, fuse, fate), call, done, fuse, fate)
			}
		}
	}
}

// ready is a camp whose first device holds an entry without its body, and that entry.
func ready(t *testing.T) (*camp, index.Piece) {
	t.Helper()
	c := met(t, false, 2)
	d := c.devices[0]
	c.ok(d.Change(put("a", "v", "x")))
	late := forged(t, c, d, 2, put("l", "late", "x"), nil)
	c.ok(d.Take(index.Piece{Header: late.Header}))
	return c, late
}

func cutOff(t *testing.T, name string, call func(c *camp, late index.Piece) api.Errno, done string, fuse int, fate []byte) {
	t.Helper()
	c, late := ready(t)
	before := state(c.devices[0])
	c.disks[0].Fuse(fuse)
	e := call(c, late)
	if e != api.OK && (e != api.ErrLost || state(c.devices[0]) != before || !c.devices[0].Over()) {
		t.Fatal(name, e)
	}
	c.disks[0].Crash(fate)
	again := state(c.reopen(0))
	if again != done && (e == api.OK || again != before) {
		t.Fatal(name, "neither ahead nor behind")
	}
	c.ok(c.devices[0].Change(put("on", "it goes")))
}

func TestAnswersAreNewMemory(t *testing.T) {
	c := met(t, false, 1)
	d := c.devices[0]
	c.ok(d.SetFilter(filter.Filter{Tags: []string{"x"}}))
	k := put("a", "v", "x")
	c.ok(d.Change(k))
	k.Tags[0] = "y"
	before := state(d)
	p, _ := d.Piece(1, 2)
	p.Body[0]++
	p.Header.Tokens[0][0]++
	d.Rows()[0].Change.Tags[0] = "y"
	d.Rows()[0].Header.Tokens[0][0]++
	d.Ring().Epochs[0][0]++
	d.Items()[0].Tags[0] = "y"
	d.Wish().Tokens[0][0]++
	if state(d) != before {
		t.Error("an answer hangs on the device")
	}
	taken := forged(t, c, d, 1, put("b", "w", "x"), nil)
	c.ok(d.Take(taken))
	before = state(d)
	taken.Body[0]++
	taken.Header.Tokens[0][0]++
	if state(d) != before {
		t.Error("what is handed in is kept")
	}
}

func TestAZeroDeviceDoesNothing(t *testing.T) {
	var d Device
	c := met(t, false, 1)
	p, _ := c.devices[0].Piece(1, 1)
	if d.Control(1, 0) == api.OK || d.Change(put("a", "v")) == api.OK || d.SetFilter(all) == api.OK || d.Take(p) == api.OK || d.Take(index.Piece{}) == api.OK ||
		d.Raise(proof.Proof{Kind: 3, Writer: 1, Floor: 2}) == api.OK || d.Lift(0, vector.Vector{1}) == api.OK || d.Compact() == api.OK || second(d.Begin()) == api.OK || !d.Over() {
		t.Error("it does something")
	}
	if d.Knows(p.Header) || len(d.Rows()) != 0 || len(d.Items()) != 0 || len(d.Pending()) != 0 || d.Wish().All {
		t.Error("it tells something")
	}
}
