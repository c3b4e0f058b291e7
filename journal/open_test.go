package journal_test

import (
	"fmt"
	"math/rand"
	"slices"
	"testing"

	"meridian/api"
	"meridian/journal"
)

// row is a sector that takes the place of one of a lap, and the records that there are then.
type row struct {
	name   string
	place  int
	sector []byte
	want   [][]byte
}

// The lap that the rows are held against: a record of three parts, and one of one part.
var first, second = some(100, 1), some(9, 2)

const rowsLap = 5

func lapOfRows() image { return allLaid(rowsLap, first, second) }

// beginnings is what is left when a sector isn't the part that must come there.
func beginnings(place int) [][]byte {
	if place < 3 {
		return nil
	}
	return [][]byte{first}
}

// wrongEverywhere are sectors that are wrong at whatever place.
func wrongEverywhere() []row {
	var rows []row
	for place, s := range lapOfRows() {
		put := func(name string, s []byte) {
			rows = append(rows, row{fmt.Sprintf("%s at %d", name, place), place, s, beginnings(place)})
		}
		put("nothing", make([]byte, 64))
		for _, lap := range []byte{0, 4, 6, 255} {
			put(fmt.Sprintf("lap %d ahead alone", lap), spoilt(s, 3, lap))
			put(fmt.Sprintf("lap %d at the end alone", lap), spoilt(s, 63, lap))
			put(fmt.Sprintf("lap %d at both places", lap), spoilt(spoilt(s, 3, lap), 63, lap))
		}
		for at := range 3 {
			put("a great lap ahead alone", spoilt(s, at, 1))
			put("a great lap at the end alone", spoilt(s, 60+at, 1))
			put("a great record's number", spoilt(s, 4+at, 1))
		}
		for _, number := range []byte{0, 1, 2, 3, 4, 255} {
			if number != s[7] {
				put(fmt.Sprintf("record %d", number), spoilt(s, 7, number))
			}
			if number != s[9] {
				put(fmt.Sprintf("part %d", number), spoilt(s, 9, number))
			}
			if number != s[11] && (place > 0 || number != 1) {
				put(fmt.Sprintf("of %d parts", number), spoilt(s, 11, number))
			}
		}
		put("a great part's number", spoilt(s, 8, 1))
		put("a great number of parts", spoilt(s, 10, 1))
		for _, length := range []byte{48, 49, 51, 60, 64, 128, 255} {
			put(fmt.Sprintf("length %d", length), spoilt(s, 12, length))
		}
		if place < 2 {
			put("length 46", spoilt(s, 12, 46))
			put("length 0", spoilt(s, 12, 0))
			put("46 bytes", made(rowsLap, 0, uint16(place+1), 3, first[:46]))
			put("0 bytes", made(rowsLap, 0, uint16(place+1), 3, nil))
			continue
		}
		put("one byte too few in its length", spoilt(s, 12, s[12]-1))
		put("length 0", spoilt(s, 12, 0))
		for at := 13 + int(s[12]); at < 60; at++ {
			put(fmt.Sprintf("no nought at byte %d", at), spoilt(s, at, 1))
		}
	}
	return rows
}

// otherRecords are sectors with which there are other records.
func otherRecords() []row {
	return []row{
		{"one part of 47 bytes", 0, made(rowsLap, 0, 1, 1, first[:47]), [][]byte{first[:47]}},
		{"one part of none", 0, made(rowsLap, 0, 1, 1, nil), [][]byte{nil}},
		{"a last part of no bytes", 2, made(rowsLap, 0, 3, 3, nil), nil},
		{"a last part of one", 2, made(rowsLap, 0, 3, 3, first[94:95]), [][]byte{first[:95], second}},
		{"a last part of 47", 2, made(rowsLap, 0, 3, 3, some(47, 4)), [][]byte{slices.Concat(first[:94], some(47, 4)), second}},
		{"a length of one more", 3, spoilt(lapOfRows()[3], 12, 10), [][]byte{first, append(slices.Clone(second), 0)}},
		{"a second record of none", 3, made(rowsLap, 1, 1, 1, nil), [][]byte{first, nil}},
		{"a first of two parts", 3, made(rowsLap, 1, 1, 2, some(47, 5)), [][]byte{first}},
		{"a first of 65535 parts", 3, made(rowsLap, 1, 1, 65535, some(47, 5)), [][]byte{first}},
		{"bytes that are noughts", 1, made(rowsLap, 0, 2, 3, make([]byte, 47)), [][]byte{slices.Concat(first[:47], make([]byte, 47), first[94:]), second}},
	}
}

// P13.1: a sector that isn't the part that must come there ends the records; in whichever half, with nothing in the other one, and with an elder or a newer lap there.
func TestWhatIsNoPart(t *testing.T) {
	others := []image{nil, allLaid(rowsLap-1, some(20, 6), some(50, 7)), allLaid(rowsLap+1, some(30, 8))}
	for _, r := range append(wrongEverywhere(), otherRecords()...) {
		for holder := range 2 {
			for turn, other := range others {
				d := lay(t, 8, map[int]image{holder * 4: lapOfRows(), 4 - holder*4: other})
				d.Write(holder*4+r.place, r.sector)
				want := r.want
				if turn == 1 && len(want) == 0 {
					want = [][]byte{some(20, 6), some(50, 7)}
				}
				if turn == 2 {
					want = [][]byte{some(30, 8)}
				}
				_, records, e := journal.Open(d)
				if e != api.OK || !alike(records, want) {
					t.Errorf("%s, in the half %d, with the other %d: Open is %v, %d, not %v", r.name, holder, turn, records, e, want)
				}
				benchOf(t, d).start(some(10, 9), api.OK)
			}
		}
	}
}

// P13.1: a lap of 0 at both places of all sectors has no records.
func TestLapOfNothing(t *testing.T) {
	for holder := range 2 {
		b := benchOf(t, lay(t, 8, map[int]image{holder * 4: allLaid(0, first, second)}))
		b.keeps()
		b.start(some(4, 3), api.OK)
		b.has(3, 1)
		b.stands(0, laid(1, 0, some(4, 3)))
	}
}

// P13.1: parts of an elder lap behind those of a newer one aren't the newer one's, though their numbers go on; nor are those of a newer lap behind an elder one's.
func TestLapsBehindOneAnother(t *testing.T) {
	for _, laps := range [][2]uint32{{7, 6}, {6, 7}, {7, 5}, {256, 255}, {263, 7}, {7, 263}, {1 << 24, 1}, {7 + 1<<31, 7}, {7, 7 + 1<<31}} {
		for at := 1; at < 4; at++ {
			mixed := slices.Concat(allLaid(laps[0], some(1, 1), some(2, 2), some(3, 3), some(4, 4))[:at], allLaid(laps[1], some(5, 5), some(6, 6), some(7, 7), some(8, 8))[at:])
			b := benchOf(t, lay(t, 8, map[int]image{4: mixed}))
			b.keeps([][]byte{some(1, 1), some(2, 2), some(3, 3)}[:at]...)
			long := slices.Concat(laid(laps[0], 0, some(188, 1))[:at], laid(laps[1], 0, some(188, 2))[at:])
			b = benchOf(t, lay(t, 8, map[int]image{0: long}))
			b.keeps()
			b = benchOf(t, lay(t, 8, map[int]image{0: long, 4: laid(1, 0, some(9, 9))}))
			b.keeps(some(9, 9))
		}
	}
}

// P13.1: of two halves with records the one with the greater lap has the journal's; of one lap in both, the first.
func TestWhichHalf(t *testing.T) {
	for _, laps := range [][2]uint32{{1, 1}, {1, 2}, {2, 1}, {255, 256}, {256, 255}, {9, 9}, {1 << 16, 1<<16 - 1}, {1<<31 - 2, 1<<31 - 3}, {1 << 30, 1 << 30}} {
		b := benchOf(t, lay(t, 9, map[int]image{0: allLaid(laps[0], some(5, 1), some(6, 2)), 4: allLaid(laps[1], some(60, 3))}))
		if laps[0] >= laps[1] {
			b.keeps(some(5, 1), some(6, 2))
		} else {
			b.keeps(some(60, 3))
		}
		b.start(some(9, 4), api.OK)
		b.has(3, int(max(laps[0], laps[1]))+1)
		if laps[0] >= laps[1] {
			b.stands(0, allLaid(laps[0], some(5, 1), some(6, 2)))
			b.stands(4, laid(laps[0]+1, 0, some(9, 4)))
		} else {
			b.stands(4, allLaid(laps[1], some(60, 3)))
			b.stands(0, laid(laps[1]+1, 0, some(9, 4)))
		}
	}
}

// P13.1: a record 0 in neither half: no records, and the next lap takes the first half, above all that stands.
func TestNoFirstRecord(t *testing.T) {
	for _, places := range []map[int]image{
		{0: laid(9, 1, some(5, 1))},
		{1: laid(9, 0, some(5, 1))},
		{1: laid(9, 1, some(5, 1)), 5: laid(8, 0, some(5, 1))},
		{0: laid(9, 0, some(100, 1))[:2], 4: laid(8, 0, some(48, 1))[1:]},
		{0: laid(9, 0, some(189, 1))[:4]},
		{3: laid(9, 0, some(5, 1)), 7: laid(9, 0, some(5, 1))},
	} {
		b := benchOf(t, lay(t, 8, places))
		b.keeps()
		b.start(some(50, 2), api.OK)
		b.has(2, 10)
		b.stands(0, laid(10, 0, some(50, 2)))
		b.start(some(50, 3), api.OK)
		b.stands(4, laid(11, 0, some(50, 3)))
	}
}

// P13.1: a newer lap that has no whole record 0 counts for the next lap's number alone, and its half is the one that is taken.
func TestNewerLapInPieces(t *testing.T) {
	for holder := range 2 {
		b := benchOf(t, lay(t, 8, map[int]image{holder * 4: allLaid(3, some(5, 1), some(50, 2)), 4 - holder*4: laid(9, 0, some(150, 3))[:3]}))
		b.keeps(some(5, 1), some(50, 2))
		b.start(some(5, 4), api.OK)
		b.has(3, 10)
		b.stands(holder*4, allLaid(3, some(5, 1), some(50, 2)))
		b.stands(4-holder*4, laid(10, 0, some(5, 4)))
	}
}

// P13.1: records end with their half: what reaches into the other one, or into the last sector of an odd number, isn't whole.
func TestHalvesEnd(t *testing.T) {
	for _, half := range []int{2, 3, 4, 5, 32} {
		for odd := range 2 {
			n := 2*half + odd
			just, more := some(half*47, 1), some(half*47+1, 2)
			benchOf(t, lay(t, n, map[int]image{0: laid(3, 0, just)})).keeps(just)
			benchOf(t, lay(t, n, map[int]image{half: laid(3, 0, just)})).keeps(just)
			benchOf(t, lay(t, n, map[int]image{0: laid(3, 0, more)})).keeps()
			many := make([][]byte, half+1)
			benchOf(t, lay(t, n, map[int]image{0: allLaid(3, many...)})).keeps(many[1:]...)
			if odd == 1 {
				benchOf(t, lay(t, n, map[int]image{half: laid(3, 0, more)})).keeps()
				benchOf(t, lay(t, n, map[int]image{half: allLaid(3, many...)})).keeps(many[1:]...)
				b := benchOf(t, lay(t, n, map[int]image{2 * half: laid(77, 0, nil), half: laid(3, 0, just)}))
				b.keeps(just)
				b.start(just, api.OK)
				b.has(0, 4)
				b.start(just, api.OK)
				b.has(0, 5)
				b.stands(2*half, laid(77, 0, nil))
			}
			for at := 1; at < half; at++ {
				benchOf(t, lay(t, n, map[int]image{at: laid(3, 0, nil)})).keeps()
				benchOf(t, lay(t, n, map[int]image{half + at: laid(3, 0, nil)})).keeps()
			}
		}
	}
}

// P13.1: each byte of each sector of a lap turned: another text, where it is one of a record's bytes, else what came ahead; as the model has it, too.
func TestEachByteTurned(t *testing.T) {
	whole := lapOfRows()
	d := lay(t, 8, map[int]image{4: whole})
	for place, s := range whole {
		for at := range s {
			for turn := 1; turn < 256; turn++ {
				turned := spoilt(s, at, s[at]^byte(turn))
				d.Write(4+place, turned)
				want := beginnings(place)
				if inside := at - 13; inside >= 0 && inside < int(s[12]) {
					want = [][]byte{slices.Clone(first), slices.Clone(second)}
					if place == 3 {
						want[1][inside] ^= byte(turn)
					} else {
						want[0][place*47+inside] ^= byte(turn)
					}
				}
				if place == 3 && at == 12 && int(turned[12]) > 9 && int(turned[12]) <= 47 {
					want = [][]byte{first, append(slices.Clone(second), make([]byte, turned[12]-9)...)}
				}
				if place == 2 && at == 12 && int(turned[12]) > 6 && int(turned[12]) <= 47 {
					want = [][]byte{append(slices.Clone(first), make([]byte, turned[12]-6)...), second}
				}
				if place == 0 && at == 11 && turned[11] == 1 {
					want = [][]byte{first[:47]}
				}
				_, records, e := journal.Open(d)
				if e != api.OK || !alike(records, want) {
					t.Fatalf("byte %d of sector %d is %d: Open is %v, %d, not %v", at, place, turned[at], records, e, want)
				}
				if turn%51 == 0 {
					if _, model := seen(t, d).journal(); !alike(model, want) {
						t.Fatalf("byte %d of sector %d is %d: the model has %v", at, place, turned[at], model)
					}
				}
			}
		}
		d.Write(4+place, s)
	}
}

// byChance is a disk's half with records of a few laps, in some of which bytes were changed.
func byChance(r *rand.Rand, half int) image {
	var records [][]byte
	for len(records) < half {
		records = append(records, some(r.Intn(r.Intn(130)+1), byte(r.Int())))
	}
	lap := uint32(1 + r.Intn(3))
	out := allLaid(lap, records...)[:half]
	for range r.Intn(3) {
		out[r.Intn(half)] = allLaid(lap, records...)[r.Intn(half)]
	}
	for range r.Intn(3) {
		at := []int{0, 3, 3, 7, 9, 11, 11, 12, 12, 59, 60, 63, 63, r.Intn(64)}[r.Intn(14)]
		place := r.Intn(half)
		out[place] = spoilt(out[place], at, byte(r.Intn(5)))
	}
	return out
}

// P13.1: disks by chance: what is opened, and where the next laps go.
func TestDisksByChance(t *testing.T) {
	r := rand.New(rand.NewSource(132))
	none := 0
	for range 20000 {
		half := 2 + r.Intn(5)
		b := benchOf(t, lay(t, 2*half+r.Intn(2), map[int]image{0: byChance(r, half), half: byChance(r, half)}))
		if len(b.kept) == 0 {
			none++
		}
		b.call(true, some(r.Intn(half*47+2), 1))
		b.call(false, some(r.Intn(60), 2))
		b.open()
		b.call(true, some(r.Intn(half*47+2), 3))
	}
	if none < 1000 || none > 15000 {
		t.Errorf("%d of the disks have no records", none)
	}
}
