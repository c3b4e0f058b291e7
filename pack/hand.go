package pack

import (
	"slices"

	"meridian/api"
)

const (
	base      = 128
	digitBits = 7
	// mostDigits is how many digits MaxNumber has: a longer number is above it, or not as short as can be.
	mostDigits = 8
)

// hand is the bytes at hand: those that a Writer has, and those that a Reader has yet to read.
// A spoilt one has none, and takes none.
type hand struct {
	bytes  []byte
	spoilt bool
}

// spoil lets go of the bytes, since nobody gets at them any more.
func (h *hand) spoil() { h.bytes, h.spoilt = nil, true }

func (h *hand) put(b ...byte) {
	if !h.spoilt {
		h.bytes = append(h.bytes, b...)
	}
}

func (h *hand) putNumber(n int) {
	for ; n >= base; n /= base {
		h.put(byte(n%base + base))
	}
	h.put(byte(n))
}

func (h *hand) all() []byte { return slices.Clone(h.bytes) }

// take cuts off the first n bytes; it is a fault if there are fewer.
func (h *hand) take(n int) []byte {
	if n > len(h.bytes) {
		h.spoil()
		return nil
	}
	first := h.bytes[:n]
	h.bytes = h.bytes[n:]
	return first
}

// takeNumber is the number that stands first; it is a fault if none does, and 0 then.
func (h *hand) takeNumber() int {
	n := 0
	for i, c := range h.bytes {
		if i == mostDigits {
			break
		}
		n |= int(c%base) << (i * digitBits)
		if c >= base {
			continue
		}
		if n > api.MaxNumber || c == 0 && i > 0 {
			break
		}
		h.take(i + 1)
		return n
	}
	h.spoil()
	return 0
}
