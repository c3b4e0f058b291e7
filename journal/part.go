package journal

import (
	"iter"

	"meridian/api"
)

// Where things stand in a sector.
const (
	lapAt    = 0
	recordAt = 4
	numberAt = 8
	ofAt     = 10
	lengthAt = 12
	bytesAt  = 13
	againAt  = 60

	// mostBytes is how many bytes of a record a part has, at most.
	mostBytes = againAt - bytesAt
)

type sector [api.SectorSize]byte

// part is one of a record's, the number from 1 on.
type part struct {
	lap, record int
	number, of  int
	bytes       []byte
}

// Parts is how many parts a record has.
func Parts(n int) int {
	if n < 0 {
		return 0
	}
	// A record of no bytes has a part, too.
	return max(n-1, 0)/mostBytes + 1
}

// parted goes through the parts of a record, whose bytes are pieces of it.
func parted(lap, number int, record []byte) iter.Seq[part] {
	return func(yield func(part) bool) {
		of := Parts(len(record))
		for i := range of {
			p := part{lap: lap, record: number, number: i + 1, of: of}
			p.bytes = record[i*mostBytes : min((i+1)*mostBytes, len(record))]
			if !yield(p) {
				return
			}
		}
	}
}

// sector is what a part's sector has.
func (p part) sector() sector {
	var s sector
	put(s[lapAt:recordAt], p.lap)
	put(s[recordAt:numberAt], p.record)
	put(s[numberAt:ofAt], p.number)
	put(s[ofAt:lengthAt], p.of)
	s[lengthAt] = byte(len(p.bytes))
	copy(s[bytesAt:againAt], p.bytes)
	put(s[againAt:], p.lap)
	return s
}

// fits tells whether a record that is cut into parts can have this one.
func (p part) fits() bool {
	if p.number < p.of {
		return len(p.bytes) == mostBytes
	}
	return p.number == p.of && (p.of == 1 || len(p.bytes) > 0)
}

// next is the part that a sector has, if that is the one behind p.
func (p part) next(s sector) (part, bool) {
	n := part{lap: p.lap, record: p.record, number: p.number + 1, of: p.of}
	if p.number == p.of {
		n.record, n.number, n.of = p.record+1, 1, number(s[ofAt:lengthAt])
	}
	n.bytes = s[bytesAt : bytesAt+min(int(s[lengthAt]), mostBytes)]
	// Written anew it must come to the same sector: so both laps, all numbers, the length and the noughts are right.
	return n, n.fits() && n.sector() == s
}

// put writes a number into all of b, the highest byte first.
func put(b []byte, n int) {
	for i := range b {
		b[len(b)-1-i] = byte(n >> (8 * i))
	}
}

func number(b []byte) int {
	n := 0
	for _, c := range b {
		n = n<<8 | int(c)
	}
	return n
}
