package world

import (
	"bytes"
	"fmt"
	"math"
	"math/rand"
	"slices"
	"strings"
	"testing"

	"jalousie/api"
	"jalousie/ask"
	"jalousie/entry"
	"jalousie/filter"
	"jalousie/group"
	"jalousie/hash"
	"jalousie/index"
	"jalousie/item"
	"jalousie/keys"
	"jalousie/net"
	"jalousie/proof"
	"jalousie/vector"
)

var all = filter.Filter{All: true}

func plan(devices, relays int) Plan {
	return Plan{
		Ideal: true, Devices: devices, Relays: relays, Sectors: 2000, Honest: [2]bool{true, true},
		Seed: api.Hash{1}, Secret: api.Hash{2},
	}
}

func begun(t *testing.T, p Plan) *World {
	t.Helper()
	w, e := New(p)
	if e != api.OK {
		t.Fatal(e)
	}
	return w
}

func (w *World) must(t *testing.T, a Act) {
	t.Helper()
	if e := w.Do(a); e != api.OK {
		t.Fatal(a.Kind, e)
	}
}

func put(name, value string, tags ...string) entry.Change {
	return entry.Change{Op: 1, Name: name, Tags: tags, Value: value}
}

// settle lets all ask all, a number of times, with nothing lost.
func settle(t *testing.T, w *World, rounds int) {
	t.Helper()
	for len(w.Way()) > 0 {
		w.Do(Act{Kind: 4})
	}
	for range rounds {
		for i := range w.persons {
			for k := range w.houses {
				if e := w.Do(Act{Kind: 3, Who: i, Relay: k}); e != api.OK {
					t.Fatal(i, e)
				}
				w.Do(Act{Kind: 4})
				w.Do(Act{Kind: 4})
			}
		}
	}
}

func TestNewRefuses(t *testing.T) {
	for i, f := range []func(p *Plan){
		func(p *Plan) { p.Devices = 0 }, func(p *Plan) { p.Devices = 5 }, func(p *Plan) { p.Devices = -1 }, func(p *Plan) { p.Devices = math.MaxInt },
		func(p *Plan) { p.Relays = 0 }, func(p *Plan) { p.Relays = 3 }, func(p *Plan) { p.Relays = -1 },
		func(p *Plan) { p.Sectors = 5 }, func(p *Plan) { p.Sectors = api.MaxSectors + 1 }, func(p *Plan) { p.Sectors = -1 },
	} {
		p := plan(2, 2)
		f(&p)
		if w, e := New(p); e != api.ErrArg || w != nil {
			t.Error(i, e)
		}
	}
	for _, sectors := range []int{6, api.MaxSectors} {
		p := plan(4, 2)
		p.Sectors = sectors
		begun(t, p)
	}
}

func TestANewWorld(t *testing.T) {
	w := begun(t, plan(3, 2))
	for i := range 3 {
		if d := w.Device(i); d.Me() != i+1 || d.Heads() != (vector.Vector{}) || w.Leaked(i) {
			t.Error(i)
		}
	}
	for _, i := range []int{-1, 3, math.MaxInt} {
		if w.Device(i) != nil || w.Relay(i) != nil || w.Leaked(i) {
			t.Error(i)
		}
	}
	if w.Relay(0).Count() != 0 || w.Relay(1) == nil || w.Relay(2) != nil || !w.Box().Ideal() || len(w.Way()) != 0 || len(w.Trace()) != 0 {
		t.Error("something is there")
	}
	p := plan(1, 1)
	p.Ideal = false
	if begun(t, p).Box().Ideal() {
		t.Error("an ideal box")
	}
	w.must(t, Act{Kind: 0, Who: 2, Op: 1})
	seed := hash.Derive(api.Hash{2}, "jalousie seed2")
	for i := 255; i > 1; i-- {
		seed = hash.Derive(seed, "jalousie back")
	}
	if w.Device(2).Ring().Epochs[1] != seed {
		t.Error("the seed")
	}
}

func TestOneDevice(t *testing.T) {
	w := begun(t, plan(1, 1))
	w.must(t, Act{Kind: 0, Op: 1})
	w.must(t, Act{Kind: 3})
	if l := w.Way(); len(l) != 1 || l[0].From != 0 || l[0].To != 10 || len(w.Trace()) != 1 || !bytes.Equal(w.Trace()[0], l[0].Bytes) {
		t.Error(l)
	}
	w.must(t, Act{Kind: 4})
	if l := w.Way(); len(l) != 1 || l[0].From != 10 || l[0].To != 0 || w.Relay(0).Count() != 1 || len(w.Trace()) != 1 {
		t.Error(l)
	}
	w.must(t, Act{Kind: 4})
	if len(w.Way()) != 0 || w.Device(0).Floor(0) != (vector.Vector{1}) {
		t.Error(w.Device(0).Floor(0))
	}
}

func TestActsOfADevice(t *testing.T) {
	w := begun(t, plan(2, 2))
	for i, k := range []struct {
		a    Act
		want api.Errno
	}{
		{Act{Kind: 13}, api.ErrArg}, {Act{Kind: -1}, api.ErrArg}, {Act{Kind: math.MaxInt}, api.ErrArg},
		{Act{Kind: 1, Change: put("a", "v")}, api.ErrState}, {Act{Kind: 0, Op: 9}, api.ErrArg}, {Act{Kind: 0, Who: -7, Op: 1}, api.OK},
		{Act{Kind: 0, Who: 4, Op: 1}, api.ErrState}, {Act{Kind: 0, Who: 2, Op: 2, Member: 2}, api.OK}, {Act{Kind: 1, Change: entry.Change{}}, api.ErrArg},
		{Act{Kind: 1, Change: put("a", "v")}, api.OK}, {Act{Kind: 2, Filter: all}, api.OK}, {Act{Kind: 2, Filter: filter.Filter{All: true, Tags: []string{"a"}}}, api.ErrArg},
		{Act{Kind: 11}, api.OK}, {Act{Kind: 4}, api.ErrNone}, {Act{Kind: 5}, api.ErrNone}, {Act{Kind: 6}, api.ErrNone}, {Act{Kind: 10}, api.ErrNone},
	} {
		if e := w.Do(k.a); e != k.want {
			t.Error(i, e)
		}
	}
	if w.Device(0).Group().Epoch != 2 || len(w.Device(0).Items()) != 1 || w.Device(1).Heads() != (vector.Vector{}) {
		t.Error(w.Device(0).Group())
	}
	w.must(t, Act{Kind: 3, Who: 3, Relay: 5})
	if l := w.Way(); l[0].From != 1 || l[0].To != 11 {
		t.Error(l)
	}
	w.must(t, Act{Kind: 3, Who: -1, Relay: -1})
	if l := w.Way(); l[1].From != 0 || l[1].To != 10 {
		t.Error(l)
	}
}

func TestLettersAreLostAndDoubled(t *testing.T) {
	w := begun(t, plan(2, 1))
	w.must(t, Act{Kind: 3, Who: 0})
	w.must(t, Act{Kind: 3, Who: 1})
	w.must(t, Act{Kind: 6, I: 3})
	if l := w.Way(); len(l) != 3 || l[2].From != 1 {
		t.Error(l)
	}
	w.must(t, Act{Kind: 5, I: -4})
	if l := w.Way(); len(l) != 2 || l[0].From != 1 {
		t.Error(l)
	}
	w.must(t, Act{Kind: 4, I: 1})
	w.must(t, Act{Kind: 4, I: 0})
	w.must(t, Act{Kind: 4, I: 0})
	if e := w.Do(Act{Kind: 4}); e != api.ErrOld || len(w.Way()) != 0 {
		t.Error("a double", e)
	}
}

func TestAFullNet(t *testing.T) {
	w := begun(t, plan(1, 1))
	w.must(t, Act{Kind: 0, Op: 1})
	for range api.MaxWay {
		w.must(t, Act{Kind: 3})
	}
	open, _ := w.persons[0].sync.Open(0)
	if e := w.Do(Act{Kind: 3}); e != api.ErrFull || len(w.Trace()) != api.MaxWay || len(w.Way()) != api.MaxWay {
		t.Error(e)
	}
	if again, _ := w.persons[0].sync.Open(0); again.ID != open.ID {
		t.Error("what can't be sent is open")
	}
	if e := w.Do(Act{Kind: 6}); e != api.ErrFull {
		t.Error(e)
	}
	w.must(t, Act{Kind: 4})
	w.must(t, Act{Kind: 5})
	w.must(t, Act{Kind: 3})
	if q, _ := w.persons[0].sync.Open(0); q.ID != open.ID+1 {
		t.Error(q.ID)
	}
	if e := w.Device(0).Raise(proof.Proof{Kind: 3, Writer: 1, Floor: 1}); e != api.OK {
		t.Fatal(e)
	}
	if e := w.Do(Act{Kind: 3}); e != api.ErrState {
		t.Error("the alarm is asked first", e)
	}
}

func TestCrashes(t *testing.T) {
	w := begun(t, plan(2, 2))
	w.must(t, Act{Kind: 0, Op: 1})
	w.must(t, Act{Kind: 9, N: 1})
	if e := w.Do(Act{Kind: 1, Change: put("a", "v")}); e != api.ErrLost {
		t.Error(e)
	}
	if e := w.Do(Act{Kind: 3}); e != api.ErrLost {
		t.Error(e)
	}
	old := w.Device(0)
	w.must(t, Act{Kind: 7, Fate: []byte{3}})
	if w.Device(0) == old || w.Device(0).Over() || w.Device(0).Heads() != (vector.Vector{1}) {
		t.Error(w.Device(0).Heads())
	}
	w.must(t, Act{Kind: 3, Relay: 1})
	if q, _ := w.persons[0].sync.Open(1); q.ID != 2<<32+1 {
		t.Error("not a new sync", q.ID)
	}
	w.must(t, Act{Kind: 9, Member: 1, Relay: 1, N: 0})
	w.must(t, Act{Kind: 4})
	if !w.Relay(1).Over() || w.Relay(0).Over() || w.Device(0).Over() {
		t.Error("the fuse of a relay")
	}
	if e := w.Do(Act{Kind: 4}); e != api.ErrLost {
		t.Error("what the relay tells", e)
	}
	w.must(t, Act{Kind: 8, Relay: 1})
	if w.Relay(1).Over() || w.Relay(1).Count() != 0 {
		t.Error("the relay is over")
	}
	settle(t, w, 3)
	if w.Relay(1).Count() != 1 {
		t.Error(w.Relay(1).Count())
	}
	w.must(t, Act{Kind: 8, Relay: 3, Fate: []byte{1, 2}})
	if w.Relay(1).Count() != 1 {
		t.Error("a relay lost what it acked")
	}
}

func TestADeviceThatIsDown(t *testing.T) {
	p := plan(2, 1)
	p.Sectors = 6
	w := begun(t, p)
	w.must(t, Act{Kind: 3})
	w.must(t, Act{Kind: 4})
	var e api.Errno
	for e == api.OK {
		e = w.Do(Act{Kind: 7})
	}
	if e != api.ErrFull || w.Device(0) != nil {
		t.Fatal(e)
	}
	for _, kind := range []int{0, 1, 2, 3, 11, 12} {
		if e := w.Do(Act{Kind: kind, Op: 1, Filter: all, Change: put("a", "v")}); e != api.ErrLost || w.Leaked(0) || len(w.Trace()) != 1 {
			t.Error(kind, e)
		}
	}
	if e := w.Do(Act{Kind: 4}); e != api.ErrLost || len(w.Way()) != 0 {
		t.Error("what comes to it", e)
	}
	if e := w.Do(Act{Kind: 7}); e != api.ErrFull {
		t.Error(e)
	}
	if w.Device(1) == nil {
		t.Error("the other one is down")
	}
	w.must(t, Act{Kind: 9, N: 1})
}

func TestARelayThatIsDown(t *testing.T) {
	w := begun(t, plan(1, 2))
	w.must(t, Act{Kind: 3, Relay: 1})
	w.houses[1].disk.Write(2, bytes.Repeat([]byte{9}, 64))
	head := slices.Concat(make([]byte, 7), []byte{2}, make([]byte, 7), []byte{9}, make([]byte, 16))
	w.houses[1].disk.Write(0, append(head, head...))
	if e := w.Do(Act{Kind: 8, Relay: 1, Fate: []byte{64}}); e != api.OK {
		t.Log(e)
	}
	w.houses[1].disk.Write(2, append([]byte{1, 9, 0}, make([]byte, 61)...))
	w.houses[1].disk.Write(0, append(head, head...))
	if e := w.Do(Act{Kind: 8, Relay: 1, Fate: []byte{64}}); e != api.ErrForm || w.Relay(1) != nil || w.Relay(0) == nil {
		t.Fatal(e)
	}
	if e := w.Do(Act{Kind: 4}); e != api.ErrLost || len(w.Way()) != 0 {
		t.Error("what comes to it is lost", e)
	}
	w.must(t, Act{Kind: 3, Relay: 1})
	if e := w.Do(Act{Kind: 8, Relay: 1}); e != api.ErrForm {
		t.Error(e)
	}
}

func TestTurn(t *testing.T) {
	p := plan(1, 2)
	p.Honest = [2]bool{true, false}
	w := begun(t, p)
	w.must(t, Act{Kind: 3, Relay: 0})
	w.must(t, Act{Kind: 3, Relay: 1})
	for i := range 2 {
		if e := w.Do(Act{Kind: 10, I: i, Bytes: []byte{1}}); e != api.ErrNone {
			t.Error("a device's letter", e)
		}
	}
	w.must(t, Act{Kind: 4})
	w.must(t, Act{Kind: 4})
	if e := w.Do(Act{Kind: 10, I: 0, Bytes: []byte{1}}); e != api.ErrNone {
		t.Error("an honest relay's letter", e)
	}
	if e := w.Do(Act{Kind: 10, I: 1, Bytes: make([]byte, 4*api.MaxBytes+1)}); e != api.ErrNone {
		t.Error("too long", e)
	}
	w.must(t, Act{Kind: 10, I: 3, Bytes: []byte{1}})
	if l := w.Way(); !bytes.Equal(l[1].Bytes, []byte{1}) || len(l[0].Bytes) != 16 {
		t.Error(l)
	}
	if e := w.Do(Act{Kind: 4, I: 1}); e != api.ErrForm || len(w.Way()) != 1 {
		t.Error(e)
	}
}

func TestLeak(t *testing.T) {
	w := begun(t, plan(2, 1))
	w.must(t, Act{Kind: 12, Who: 1})
	ring := w.Device(1).Ring()
	if l := w.Trace(); len(l) != 1 || !bytes.Equal(l[0], ring.Group[:]) || !w.Leaked(1) || w.Leaked(0) {
		t.Error(l)
	}
	w.must(t, Act{Kind: 0, Op: 1})
	w.must(t, Act{Kind: 12, Who: 0})
	ring = w.Device(0).Ring()
	l := w.Trace()
	if len(l) != 4 || !bytes.Equal(l[1], ring.Group[:]) || !bytes.Equal(l[2], ring.Epochs[0][:]) || !bytes.Equal(l[3], ring.Epochs[1][:]) || !w.Leaked(0) {
		t.Error(l)
	}
	l[0][0]++
	if bytes.Equal(w.Trace()[0], l[0]) {
		t.Error("the trace is handed out")
	}
}

// turned is a name of the same length, in the same order among others.
func turned(s string) string {
	b := []byte(s)
	for i := range b {
		b[i] += 10
	}
	return string(b)
}

// script is n random acts; the letters and the fuses of it do as cruel says.
func script(random *rand.Rand, n int, cruel bool) []Act {
	tags := [][]string{nil, {"a"}, {"b", "c"}, {"a", "c"}}
	filters := []filter.Filter{all, {}, {Tags: []string{"a"}}, {Tags: []string{"b", "d"}}}
	l := []Act{{Kind: 0, Op: 1}, {Kind: 0, Op: 2, Member: 2}, {Kind: 0, Op: 2, Member: 3}, {Kind: 2, Filter: all}}
	for i := range n {
		a := Act{Who: random.Intn(4), Relay: random.Intn(2), I: random.Intn(4)}
		switch k := random.Intn(20); {
		case k < 3:
			a.Kind, a.Change = 1, put(fmt.Sprint("n", random.Intn(4)), fmt.Sprint("value ", i), tags[random.Intn(4)]...)
			if k == 0 {
				a.Change.Op, a.Change.Value = 3, ""
			}
		case k == 3:
			a.Kind, a.Filter = 2, filters[random.Intn(4)]
		case k == 4:
			a.Kind, a.Op, a.Member = 0, []int{3, 4, 5}[random.Intn(3)], random.Intn(5)
			if a.Op == 4 {
				a.Member = 0
			}
		case k == 5 && cruel:
			a.Kind = []int{5, 6, 11}[random.Intn(3)]
		case k == 6 && cruel:
			a.Kind, a.Fate = 7+random.Intn(2), []byte{byte(random.Intn(256)), byte(random.Intn(256))}
		case k == 7 && cruel:
			a.Kind, a.N, a.Member = 9, random.Intn(9), random.Intn(2)
		case k >= 8 && k < 12:
			a.Kind = 3
		default:
			a.Kind = 4
		}
		l = append(l, a)
	}
	return l
}

// told is all that relays are told, and tell.
func told(w *World) string {
	var b strings.Builder
	fmt.Fprintf(&b, "%x", w.Trace())
	for _, l := range w.Way() {
		fmt.Fprintf(&b, "%d %d %x", l.From, l.To, l.Bytes)
	}
	return b.String()
}

// P1: what items say isn't seen in what relays are told.
func TestBlind(t *testing.T) {
	random := rand.New(rand.NewSource(1))
	for range 8 {
		p := plan(4, 2)
		a, b := begun(t, p), begun(t, p)
		for i, act := range script(random, 300, true) {
			other := act
			other.Change.Name = turned(act.Change.Name)
			other.Change.Tags, other.Filter.Tags = nil, nil
			for _, tag := range act.Change.Tags {
				other.Change.Tags = append(other.Change.Tags, turned(tag))
			}
			for _, tag := range act.Filter.Tags {
				other.Filter.Tags = append(other.Filter.Tags, turned(tag))
			}
			if act.Change.Value != "" {
				other.Change.Value = act.Change.Value[:len(act.Change.Value)-1] + "?"
			}
			if e, f := a.Do(act), b.Do(other); e != f {
				t.Fatal(i, act, e, f)
			}
		}
		if told(a) != told(b) || a.Box().Draws() != b.Box().Draws() {
			t.Fatal("the relays are told other things")
		}
	}
}

// shown is what a device tells, but for what hangs on the box.
func shown(w *World, i int) string {
	d := w.Device(i)
	if d == nil {
		return "down"
	}
	var l []string
	for _, i := range d.Items() {
		l = append(l, fmt.Sprint(i.Name, i.Value, i.Tags, i.Newest.Writer, i.Newest.Seq))
	}
	slices.Sort(l)
	var pending []string
	for _, h := range d.Pending() {
		pending = append(pending, fmt.Sprint(h.Writer, ".", h.Seq))
	}
	_, raised := d.Alarm()
	return fmt.Sprint(l, pending, d.Heads(), d.Group(), d.Filter(), raised, d.Ring())
}

// P1: ideal and real boxes come to the same.
func TestIdealAndRealComeToTheSame(t *testing.T) {
	random := rand.New(rand.NewSource(2))
	for range 5 {
		ideal, real := plan(4, 2), plan(4, 2)
		real.Ideal = false
		a, b := begun(t, ideal), begun(t, real)
		for i, act := range script(random, 250, true) {
			if e, f := a.Do(act), b.Do(act); e != f {
				t.Fatal(i, act, e, f)
			}
			if who := act.Who % 4; shown(a, who) != shown(b, who) {
				t.Fatal(i, "devices differ", shown(a, who), shown(b, who))
			}
		}
	}
}

// P3, P5: honest relays raise nothing, and at last all members hold the same.
func TestHonestAndComes(t *testing.T) {
	random := rand.New(rand.NewSource(3))
	for range 8 {
		w := begun(t, plan(4, 2))
		for i, act := range script(random, 400, true) {
			w.Do(act)
			for k := range w.persons {
				if d := w.Device(k); d != nil {
					if p, raised := d.Alarm(); raised {
						t.Fatal(i, act, p)
					}
				}
			}
		}
		for i := range w.persons {
			w.must(t, Act{Kind: 7, Who: i})
			w.must(t, Act{Kind: 2, Who: i, Filter: all})
		}
		w.must(t, Act{Kind: 8, Relay: 0})
		w.must(t, Act{Kind: 8, Relay: 1})
		settle(t, w, 150)
		comes(t, w)
	}
}

// comes tells whether all members hold the same, and nothing is pending.
func comes(t *testing.T, w *World) {
	t.Helper()
	owner := w.Device(w.Device(0).Group().Owner - 1)
	for i := range w.persons {
		d := w.Device(i)
		if !group.Is(owner.Group(), i+1) {
			continue
		}
		if d.Heads() != owner.Heads() || d.Group() != owner.Group() || len(d.Pending()) != 0 || !slices.Equal(d.Ring().Epochs, owner.Ring().Epochs) || len(d.Ring().Epochs) != d.Group().Epoch+1 {
			t.Error(i, d.Heads(), owner.Heads(), d.Group(), owner.Group(), len(d.Pending()))
		}
		if !slices.EqualFunc(d.Items(), owner.Items(), item.Same) {
			t.Error(i, "items differ")
		}
	}
}

// lie turns a reply into another one.
func lie(random *rand.Rand, r ask.Reply, heard [][]byte) ask.Reply {
	switch random.Intn(7) {
	case 0:
		i := random.Intn(api.MaxMembers)
		r.Heads[i] = uint64(random.Intn(int(r.Heads[i]) + 3))
	case 1:
		for i := range r.Pieces {
			if random.Intn(2) == 0 {
				r.Pieces[i].Body = nil
			}
		}
	case 2:
		random.Shuffle(len(r.Pieces), func(i, j int) { r.Pieces[i], r.Pieces[j] = r.Pieces[j], r.Pieces[i] })
	case 3:
		if len(r.Pieces) > 0 {
			r.Pieces = r.Pieces[:random.Intn(len(r.Pieces))]
		}
	case 4:
		for i := range r.Pieces {
			turnPiece(random, &r.Pieces[i])
		}
	case 5:
		if old, e := ask.ParseReply(heard[random.Intn(len(heard))]); e == api.OK {
			r.Pieces, r.Heads = old.Pieces, old.Heads
		}
	default:
		r.Err = api.Errno(random.Intn(15))
	}
	return r
}

func turnPiece(random *rand.Rand, p *index.Piece) {
	switch random.Intn(5) {
	case 0:
		p.Header.Time++
	case 1:
		p.Header.Prev[random.Intn(32)]++
	case 2:
		p.Header.Code[random.Intn(32)]++
	case 3:
		if len(p.Body) > 0 {
			p.Body[random.Intn(len(p.Body))]++
		}
	default:
		p.Header.Tokens = nil
	}
}

// P2: whatever relays say, an alarm has a proof, and what is held was made.
func TestSafe(t *testing.T) {
	random := rand.New(rand.NewSource(4))
	alarms := 0
	for range 25 {
		p := plan(4, 2)
		p.Honest = [2]bool{random.Intn(2) == 0, false}
		p.Ideal = random.Intn(2) == 0
		w := begun(t, p)
		var heard [][]byte
		for _, act := range script(random, 250, false) {
			if act.Kind == 4 && len(w.Way()) > 0 {
				l := w.Way()[act.I%len(w.Way())]
				if l.From >= 10 {
					heard = append(heard, l.Bytes)
					if r, e := ask.ParseReply(l.Bytes); e == api.OK && random.Intn(3) == 0 {
						r = lie(random, r, heard)
						b, _ := ask.ReplyBytes(r)
						w.Do(Act{Kind: 10, I: act.I, Bytes: b})
					}
				}
			}
			w.Do(act)
		}
		alarms += safe(t, w)
	}
	if alarms < 10 {
		t.Error("so few alarms show little:", alarms)
	}
}

// safe checks what all devices hold, and tells how many have raised the alarm.
func safe(t *testing.T, w *World) int {
	t.Helper()
	alarms := 0
	for i := range w.persons {
		d := w.Device(i)
		if p, raised := d.Alarm(); raised {
			alarms++
			if !proof.Check(w.Box(), d.Ring(), p) || p.Kind < 3 {
				t.Error(i, "an alarm without a proof", p)
			}
		}
		for k, n := range d.Heads() {
			for seq := uint64(1); seq <= n; seq++ {
				held, _ := d.Piece(k+1, seq)
				made, e := w.Device(k).Piece(k+1, seq)
				if e != api.OK || !entry.Same(held.Header, made.Header) || len(held.Body) > 0 && !bytes.Equal(held.Body, made.Body) {
					t.Error(i, k, seq, "nobody made it")
				}
			}
		}
		readable(t, w, i)
	}
	return alarms
}

// readable checks that the items are the fold of what is held, and the pending entries what is wanted and not there.
func readable(t *testing.T, w *World, i int) {
	t.Helper()
	d := w.Device(i)
	var rows []item.Row
	own := keys.Of(d.Ring().Group)
	for k, n := range d.Heads() {
		for seq := uint64(1); seq <= n; seq++ {
			p, _ := d.Piece(k+1, seq)
			if p.Header.Control || !group.Counts(d.Group(), k+1, seq) {
				continue
			}
			r := item.Row{Header: p.Header}
			if s, ok := proof.Keys(d.Ring(), p.Header); ok && len(p.Body) > 0 {
				b, _ := entry.Open(w.Box(), s, p.Header, p.Body)
				c, e := entry.ParseChange(b)
				r.Known, r.Change = e == api.OK, c
			}
			rows = append(rows, r)
		}
	}
	if !slices.EqualFunc(filter.Shown(d.Filter(), rows), d.Items(), item.Same) {
		t.Error(i, "the items aren't the fold")
	}
	if !slices.EqualFunc(filter.Pending(filter.Of(w.Box(), own, d.Filter()), rows), d.Pending(), entry.Same) {
		t.Error(i, "the pending entries aren't what is wanted")
	}
}

// P2: the four things that a reply shows are raised at once.
func TestWhatIsShownIsRaisedAtOnce(t *testing.T) {
	for want, f := range map[api.Errno]func(w *World, r *ask.Reply){
		api.ErrFloor: func(_ *World, r *ask.Reply) { r.Heads[0]-- },
		api.ErrOmit:  func(_ *World, r *ask.Reply) { r.Pieces[len(r.Pieces)-1].Body = nil },
	} {
		p := plan(2, 1)
		p.Honest[0] = false
		w := begun(t, p)
		w.must(t, Act{Kind: 0, Op: 1})
		w.must(t, Act{Kind: 0, Op: 2, Member: 2})
		w.must(t, Act{Kind: 2, Who: 1, Filter: all})
		settle(t, w, 3)
		w.must(t, Act{Kind: 1, Change: put("a", "v")})
		w.must(t, Act{Kind: 3})
		w.must(t, Act{Kind: 4})
		w.must(t, Act{Kind: 4})
		w.must(t, Act{Kind: 3, Who: 1})
		w.must(t, Act{Kind: 4})
		r, e := ask.ParseReply(w.Way()[0].Bytes)
		if e != api.OK || r.Kind != 2 || len(r.Pieces) != 1 {
			t.Fatal(e, r)
		}
		r.Heads[0] = 3
		f(w, &r)
		if want == api.ErrFloor {
			r.Heads[0] = 1
		}
		b, _ := ask.ReplyBytes(r)
		w.must(t, Act{Kind: 10, Bytes: b})
		if e := w.Do(Act{Kind: 4}); e != want {
			t.Error(e)
		}
		if p, raised := w.Device(1).Alarm(); !raised || !proof.Check(w.Box(), w.Device(1).Ring(), p) {
			t.Error(want, "no alarm")
		}
		if e := w.Do(Act{Kind: 3, Who: 1}); e != api.ErrState {
			t.Error(e)
		}
	}
}

// P4: behind any crash a device tells no second header of a number, and a relay holds what it acked.
func TestCrashesLoseNothing(t *testing.T) {
	random := rand.New(rand.NewSource(6))
	for range 6 {
		w := begun(t, plan(4, 2))
		pushed := map[string]entry.Header{}
		served := make([]vector.Vector, 2)
		for _, act := range script(random, 400, true) {
			w.Do(act)
			for _, l := range w.Way() {
				seen(t, l, pushed, served)
			}
			for k := range served {
				if r := w.Relay(k); r == nil || !vector.Great(r.Heads(), served[k]) {
					t.Fatal("a relay lost what it told")
				}
			}
		}
	}
}

// seen notes what a letter tells.
func seen(t *testing.T, l net.Letter, pushed map[string]entry.Header, served []vector.Vector) {
	t.Helper()
	if l.To < 10 {
		r, e := ask.ParseReply(l.Bytes)
		if e != api.OK {
			t.Fatal(e)
		}
		served[l.From-10] = vector.Join(served[l.From-10], r.Heads)
		return
	}
	q, e := ask.Parse(l.Bytes)
	if e != api.OK {
		t.Fatal(e)
	}
	if q.Kind != 1 {
		return
	}
	h := q.Piece.Header
	at := fmt.Sprint(h.Writer, ".", h.Seq)
	if old, ok := pushed[at]; ok && !entry.Same(old, h) {
		t.Fatal("two headers of one number", at)
	}
	pushed[at] = h
}

// One that is removed gets no later key, and what it writes behind its cut counts nowhere.
func TestARemovedDevice(t *testing.T) {
	w := begun(t, plan(3, 2))
	for _, a := range []Act{{Kind: 0, Op: 1}, {Kind: 0, Op: 2, Member: 2}, {Kind: 0, Op: 2, Member: 3}, {Kind: 2, Filter: all}, {Kind: 2, Who: 1, Filter: all}, {Kind: 2, Who: 2, Filter: all}} {
		w.must(t, a)
	}
	settle(t, w, 8)
	w.must(t, Act{Kind: 1, Who: 1, Change: put("a", "ahead")})
	settle(t, w, 8)
	w.must(t, Act{Kind: 1, Who: 1, Change: put("a", "behind")})
	w.must(t, Act{Kind: 0, Op: 3, Member: 2})
	w.must(t, Act{Kind: 1, Change: put("b", "secret")})
	settle(t, w, 8)
	for _, i := range []int{0, 2} {
		l := w.Device(i).Items()
		var values []string
		for _, i := range l {
			values = append(values, i.Value)
		}
		slices.Sort(values)
		if !slices.Equal(values, []string{"ahead", "secret"}) {
			t.Error(i, values)
		}
	}
	if d := w.Device(1); len(d.Ring().Epochs) != 4 || len(d.Items()) != 1 || len(w.Device(0).Ring().Epochs) != 5 {
		t.Error(len(d.Ring().Epochs), len(d.Items()))
	}
}

func TestAZeroWorldDoesNothing(t *testing.T) {
	var w World
	for kind := range 13 {
		if w.Do(Act{Kind: kind}) == api.OK {
			t.Error(kind)
		}
	}
	if w.Device(0) != nil || w.Relay(0) != nil || len(w.Way()) != 0 || len(w.Trace()) != 0 || w.Leaked(0) {
		t.Error("something is there")
	}
}
