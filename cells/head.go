package cells

import (
	"jalousie/api"
)

const (
	halfBytes   = api.Sector / 2
	numberBytes = 8
	noteAt      = 2 * numberBytes
)

// half is what stands in a head twice.
type half [halfBytes]byte

// head is a log's state, but for its bytes.
type head struct {
	serial uint64
	count  uint64
	note   [16]byte
}

// place is which head has the state of this serial.
func (h head) place() int {
	return int(h.serial % headSectors)
}

func (h head) half() half {
	var b half
	putNumber(b[:numberBytes], h.serial)
	putNumber(b[numberBytes:noteAt], h.count)
	copy(b[noteAt:], h.note[:])
	return b
}

func (h head) sector() []byte {
	b := h.half()
	return append(b[:], b[:]...)
}

// headOf is the head that a sector has, if its halves are alike.
func headOf(sector []byte) (head, bool) {
	first, second := half(sector[:halfBytes]), half(sector[halfBytes:])
	if first != second {
		return head{}, false
	}
	return head{
		serial: number(first[:numberBytes]),
		count:  number(first[numberBytes:noteAt]),
		note:   [16]byte(first[noteAt:]),
	}, true
}

func number(b []byte) uint64 {
	var x uint64
	for _, digit := range b {
		x = x<<8 | uint64(digit)
	}
	return x
}

func putNumber(b []byte, x uint64) {
	for i := range b {
		b[len(b)-1-i] = byte(x >> (8 * i))
	}
}
