package pad

import (
	"bytes"
	"math"
	"slices"
	"testing"

	"jalousie/api"
)

var buckets = []int{64, 128, 256, 512, 1024, 2048}

func TestBucketIsTheLeastThatHasRoomForOneMore(t *testing.T) {
	for n := range api.MaxBody {
		want := buckets[slices.IndexFunc(buckets, func(b int) bool { return b >= n+1 })]
		if got, e := Bucket(n); e != api.OK || got != want {
			t.Fatalf("%d: %d, %d", n, got, e)
		}
	}
	for _, n := range []int{-1, math.MinInt} {
		if got, e := Bucket(n); e != api.ErrArg || got != 0 {
			t.Errorf("%d: %d, %d", n, got, e)
		}
	}
	for _, n := range []int{2048, 2049, math.MaxInt} {
		if got, e := Bucket(n); e != api.ErrLong || got != 0 {
			t.Errorf("%d: %d, %d", n, got, e)
		}
	}
}

func TestIs(t *testing.T) {
	for n := -70; n < 5000; n++ {
		if Is(n) != slices.Contains(buckets, n) {
			t.Error(n)
		}
	}
	if Is(math.MinInt) || Is(math.MaxInt) {
		t.Error("an end of the numbers is a bucket")
	}
}

func TestWhatIsPaddedIsUnpadded(t *testing.T) {
	for n := range api.MaxBody {
		for _, fill := range []byte{0, 128, 7} {
			b := bytes.Repeat([]byte{fill}, n)
			got, e := Pad(b)
			bucket, _ := Bucket(n)
			if e != api.OK || len(got) != bucket || !bytes.Equal(got[:n], b) || got[n] != 128 || slices.Max(append(got[n+1:], 0)) != 0 {
				t.Fatalf("%d of %d: %d", n, fill, e)
			}
			if back, e := Unpad(got); e != api.OK || !bytes.Equal(back, b) {
				t.Fatalf("%d of %d: back %d bytes, %d", n, fill, len(back), e)
			}
		}
	}
	if b, e := Pad(make([]byte, 2048)); e != api.ErrLong || len(b) != 0 {
		t.Error(e)
	}
}

func TestUnpadRefusesWhatIsNoneOfIts(t *testing.T) {
	cases := [][]byte{
		nil, {}, {128}, make([]byte, 64), bytes.Repeat([]byte{1}, 64),
		append(make([]byte, 64), 128),
		slices.Concat(make([]byte, 63), []byte{129}),
		slices.Concat([]byte("abc"), []byte{128}, make([]byte, 59)),
		slices.Concat([]byte("abc"), []byte{128}, make([]byte, 61)),
		slices.Concat([]byte("abc"), []byte{128}, make([]byte, 124)),
		slices.Concat(make([]byte, 63), []byte{128}, make([]byte, 64)),
		slices.Concat(make([]byte, 2048), []byte{128}, make([]byte, 2047)),
		slices.Concat([]byte{128}, make([]byte, 62), []byte{1}),
	}
	for i, b := range cases {
		keep := bytes.Clone(b)
		if got, e := Unpad(b); e != api.ErrForm || len(got) != 0 || !bytes.Equal(b, keep) {
			t.Errorf("%d: %d bytes, %d", i, len(got), e)
		}
	}
}

func TestPadAndUnpadAnswerNewMemory(t *testing.T) {
	room := bytes.Repeat([]byte{9}, 200)
	Pad(room[:10])
	if slices.Min(room) != 9 {
		t.Error("spare room was written to")
	}
	padded, _ := Pad([]byte("abc"))
	text, _ := Unpad(padded)
	clear(padded)
	if string(text) != "abc" {
		t.Error("an answer hangs on the argument")
	}
}

func TestBatch(t *testing.T) {
	cases := map[int]int{
		math.MinInt: 1, -1: 1, 0: 1, 1: 1, 2: 2, 3: 4, 4: 4, 5: 8, 255: 256, 256: 256, 257: 512,
		32768: 32768, 32769: 65536, 65535: 65536, 65536: 65536, 65537: 65536, math.MaxInt: 65536,
	}
	for n, want := range cases {
		if got := Batch(n); got != want {
			t.Errorf("%d: %d", n, got)
		}
	}
}
