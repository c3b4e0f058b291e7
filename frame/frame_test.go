package frame_test

import (
	"bytes"
	"encoding/binary"
	"fmt"
	"hash/crc32"
	"math/rand"
	"reflect"
	"testing"

	"meridian/api"
	"meridian/frame"
)

// The exact signatures: another one would not build.
var (
	_ func([]byte) ([]byte, api.Errno)        = frame.Seal
	_ func([]byte) ([]byte, api.Errno)        = frame.Open
	_ func([]byte) ([][]byte, int, api.Errno) = frame.Cut
)

const (
	head    = 8
	longest = 65536
)

// withLength is a payload behind any length that is said, and behind the sum of both: Go's own library works it out,
// and so it shares nothing with the program.
func withLength(n uint32, payload []byte) []byte {
	length := binary.BigEndian.AppendUint32(nil, n)
	both := join(length, payload)
	return join(length, binary.BigEndian.AppendUint32(nil, crc32.ChecksumIEEE(both)), payload)
}

func framed(payload []byte) []byte { return withLength(uint32(len(payload)), payload) }

func join(pieces ...[]byte) []byte { return bytes.Join(pieces, nil) }

// random is n bytes, the same ones at each run.
func random(n int, seed int64) []byte {
	b := make([]byte, n)
	rand.New(rand.NewSource(seed)).Read(b)
	return b
}

// somePayloads are those at the edges: of the count, of each byte of the length, of what memory is given out by.
func somePayloads() [][]byte {
	l := [][]byte{[]byte("a"), {0}, {255}, {0, 0, 0, 0}, []byte("k0 = v0.7"), make([]byte, 300), framed([]byte("a"))}
	for _, n := range []int{2, 3, 4, 5, 7, 8, 9, 15, 16, 17, 33, 100, 127, 128, 255, 256, 257, 1000, 4097, 32768, 33000} {
		l = append(l, random(n, int64(n)))
	}
	return append(l, random(longest-1, 1), random(longest, 2), make([]byte, longest))
}

// short keeps what a failing test tells within bounds.
func short(b []byte) string {
	if len(b) > 40 {
		return fmt.Sprintf("%v.. (%d bytes)", b[:40], len(b))
	}
	return fmt.Sprint(b)
}

func seals(t *testing.T, payload, want []byte) {
	t.Helper()
	if b, e := frame.Seal(payload); e != api.OK || !bytes.Equal(b, want) {
		t.Errorf("Seal(%s) = %s, %d; want %s, OK", short(payload), short(b), e, short(want))
	}
}

func opens(t *testing.T, b, want []byte) {
	t.Helper()
	if p, e := frame.Open(b); e != api.OK || !bytes.Equal(p, want) {
		t.Errorf("Open(%s) = %s, %d; want %s, OK", short(b), short(p), e, short(want))
	}
}

func refuses(t *testing.T, what string, b []byte) {
	t.Helper()
	if p, e := frame.Open(b); e != api.ErrForm || len(p) != 0 {
		t.Errorf("%s: Open(%s) = %s, %d; want none, ErrForm", what, short(b), short(p), e)
	}
}

func cuts(t *testing.T, what string, b []byte, want [][]byte, place int) {
	t.Helper()
	good := api.OK
	if place < len(b) {
		good = api.ErrForm
	}
	l, at, e := frame.Cut(b)
	if at != place || e != good || len(l) != len(want) {
		t.Errorf("%s: Cut(%s) = %d payloads, %d, %d; want %d, %d, %d", what, short(b), len(l), at, e, len(want), place, good)
		return
	}
	for i, p := range l {
		if !bytes.Equal(p, want[i]) {
			t.Errorf("%s: payload %d of Cut(%s) is %s, want %s", what, i, short(b), short(p), short(want[i]))
		}
	}
}

// P3.1
func TestSealOfTheExample(t *testing.T) {
	// E58C9792 (base 16) is the sum of 00 00 00 01 61.
	seals(t, []byte("a"), []byte{0, 0, 0, 1, 0xe5, 0x8c, 0x97, 0x92, 'a'})
}

// P3.1
func TestSealIsLengthSumAndPayload(t *testing.T) {
	for _, p := range somePayloads() {
		seals(t, p, framed(p))
	}
	for c := range 256 {
		seals(t, []byte{byte(c)}, framed([]byte{byte(c)}))
	}
}

// P3.1
func TestSealRefusesNoBytesAndTooMany(t *testing.T) {
	for _, p := range [][]byte{nil, {}, make([]byte, 0, 9), []byte("abc")[:0], make([]byte, longest+1),
		random(longest+2, 3), make([]byte, 1<<17), make([]byte, 1<<24+1)} {
		if b, e := frame.Seal(p); e != api.ErrArg || len(b) != 0 {
			t.Errorf("Seal of %d bytes = %s, %d; want none, ErrArg", len(p), short(b), e)
		}
	}
}

// P3.1
func TestOpenIsThePayload(t *testing.T) {
	opens(t, []byte{0, 0, 0, 1, 0xe5, 0x8c, 0x97, 0x92, 'a'}, []byte("a"))
	for _, p := range somePayloads() {
		opens(t, framed(p), p)
	}
}

// P3.1: of each count of bytes, and with a good sum too, so that the length alone is to be found fault with.
func TestOpenRefusesWhatIsNoFrame(t *testing.T) {
	refuses(t, "nil", nil)
	for n := range 20 {
		refuses(t, "noughts", make([]byte, n))
		refuses(t, "ones", bytes.Repeat([]byte{255}, n))
	}
	refuses(t, "eight bytes of the example", []byte{0, 0, 0, 1, 0xe5, 0x8c, 0x97, 0x92})
	refuses(t, "a length of 0, no payload", withLength(0, nil))
	refuses(t, "a length of 0, a payload", withLength(0, []byte("a")))
	for _, n := range []int{longest + 1, longest + 2, 1 << 17} {
		refuses(t, "a payload of too many bytes", framed(random(n, int64(n))))
	}
	for _, n := range []uint32{0, 1, 2, 4, 5, 6, 256, 65535, 65536, 65537, 1<<24 + 3, 1<<31 - 1, 1 << 31, 1<<32 - 3, 1<<32 - 1} {
		refuses(t, "another length", withLength(n, []byte("abc")))
	}
}

// lowestFirst is a frame whose numbers stand the wrong way round.
func lowestFirst(payload []byte, lengthToo bool) []byte {
	length := binary.BigEndian.AppendUint32(nil, uint32(len(payload)))
	if lengthToo {
		length = binary.LittleEndian.AppendUint32(nil, uint32(len(payload)))
	}
	return join(length, binary.LittleEndian.AppendUint32(nil, crc32.ChecksumIEEE(join(length, payload))), payload)
}

// P3.1
func TestOpenRefusesOtherSums(t *testing.T) {
	for _, p := range [][]byte{[]byte("a"), []byte("abc"), random(300, 1)} {
		length := binary.BigEndian.AppendUint32(nil, uint32(len(p)))
		sumOf := func(b []byte) []byte { return binary.BigEndian.AppendUint32(nil, crc32.ChecksumIEEE(b)) }
		refuses(t, "the sum of the payload alone", join(length, sumOf(p), p))
		refuses(t, "the sum of the length alone", join(length, sumOf(length), p))
		refuses(t, "the payload ahead of the length", join(length, sumOf(join(p, length)), p))
		refuses(t, "no sum", join(length, make([]byte, 4), p))
		refuses(t, "the sum's lowest byte first", lowestFirst(p, false))
		refuses(t, "the lowest bytes first", lowestFirst(p, true))
		turned := crc32.Checksum(join(length, p), crc32.MakeTable(crc32.Castagnoli))
		refuses(t, "another kind of sum", join(length, binary.BigEndian.AppendUint32(nil, turned), p))
	}
}

// P3.2
func TestWhatIsSealedIsOpened(t *testing.T) {
	r := rand.New(rand.NewSource(1))
	l := somePayloads()
	for range 500 {
		l = append(l, random(1+r.Intn(1<<(1+r.Intn(12))), r.Int63()))
	}
	for _, p := range l {
		b, e := frame.Seal(p)
		if e != api.OK {
			t.Fatalf("Seal(%s) = %d", short(p), e)
		}
		opens(t, b, p)
	}
}

// refusesTurned turns one byte of a frame, at some place, in all ways that are asked for.
func refusesTurned(t *testing.T, b []byte, at int, masks []byte) {
	t.Helper()
	for _, m := range masks {
		b[at] ^= m
		refuses(t, fmt.Sprintf("byte %d turned by %d", at, m), b)
		b[at] ^= m
	}
}

// P3.2
func TestATurnedByteIsRefused(t *testing.T) {
	var all []byte
	for m := 1; m < 256; m++ {
		all = append(all, byte(m))
	}
	for _, p := range [][]byte{[]byte("a"), {0}, []byte("abc"), make([]byte, 255), random(256, 1), random(257, 2), framed([]byte("a"))} {
		b := framed(p)
		for at := range b {
			refusesTurned(t, b, at, all)
		}
	}
	b := framed(random(longest, 3))
	for _, at := range []int{0, 1, 2, 3, 4, 5, 6, 7, 8, 9, 1000, longest, longest + 6, longest + 7} {
		refusesTurned(t, b, at, []byte{1, 2, 128, 255})
	}
}

// P3.2
func TestMissingBytesAreRefused(t *testing.T) {
	for _, p := range [][]byte{[]byte("a"), []byte("abc"), random(256, 4), random(300, 1), make([]byte, 40)} {
		b := framed(p)
		for n := range b {
			refuses(t, "cut off behind", b[:n])
			refuses(t, "cut off ahead", b[n+1:])
			refuses(t, "one missing", join(b[:n], b[n+1:]))
		}
	}
	b := framed(random(longest, 2))
	refuses(t, "the longest, one missing", b[:len(b)-1])
}

// P3.2
func TestMoreBytesAreRefused(t *testing.T) {
	for _, p := range [][]byte{[]byte("a"), []byte("abc"), random(300, 1), random(longest-1, 2), random(longest, 3)} {
		b := framed(p)
		for _, more := range [][]byte{{0}, {255}, p[:1], random(8, 1), framed([]byte("a")), b} {
			refuses(t, "more behind", join(b, more))
			refuses(t, "more ahead", join(more[:1], b))
		}
	}
	b := framed([]byte("abc"))
	for at := range len(b) {
		refuses(t, "one more within", join(b[:at], []byte{7}, b[at:]))
	}
}

// P3.1
func TestCutOfNothing(t *testing.T) {
	cuts(t, "nil", nil, nil, 0)
	cuts(t, "no bytes", []byte{}, nil, 0)
	cuts(t, "no bytes of some", framed([]byte("a"))[:0], nil, 0)
}

// P3.1
func TestCutOfOneFrame(t *testing.T) {
	for _, p := range somePayloads() {
		cuts(t, "one frame", framed(p), [][]byte{p}, head+len(p))
	}
}

// P3.1
func TestCutOfSeveralFrames(t *testing.T) {
	var b []byte
	var want [][]byte
	for _, p := range append(somePayloads(), []byte("a"), []byte("a"), []byte("b")) {
		b, want = join(b, framed(p)), append(want, p)
		cuts(t, "several", b, want, len(b))
	}
	many := bytes.Repeat(framed([]byte("a")), 5000)
	cuts(t, "many", many, slicesOf([]byte("a"), 5000), len(many))
}

func slicesOf(p []byte, n int) [][]byte {
	var l [][]byte
	for range n {
		l = append(l, p)
	}
	return l
}

// P3.1: no frame stands at the beginning, and so there is nothing, and the place is 0.
func TestCutOfWhatIsNoFrame(t *testing.T) {
	good := framed([]byte("a"))
	for n := 1; n < 20; n++ {
		cuts(t, "noughts", make([]byte, n), nil, 0)
		cuts(t, "ones", bytes.Repeat([]byte{255}, n), nil, 0)
	}
	for _, first := range [][]byte{withLength(0, nil), {0}, framed(random(longest+1, 1)), withLength(4, []byte("abc"))} {
		cuts(t, "no frame ahead of one", join(first, good), nil, 0)
	}
	for _, n := range []uint32{0, 1, 2, 4, 65536, 65537, 1 << 31, 1<<32 - 1} {
		cuts(t, "another length", withLength(n, []byte("abc")), nil, 0)
	}
}

// P3.1, P3.3: what follows the last whole frame stays, however it goes on.
func TestCutWithOtherBytesBehind(t *testing.T) {
	payloads := [][]byte{[]byte("ab"), []byte("c"), random(300, 1)}
	whole := join(framed(payloads[0]), framed(payloads[1]), framed(payloads[2]))
	turned := framed([]byte("d"))
	turned[head] ^= 1
	for _, behind := range [][]byte{{0}, {255}, make([]byte, 8), make([]byte, 9), []byte("other bytes"), turned,
		withLength(0, nil), withLength(0, []byte("a")), framed(random(longest+1, 2)), withLength(1<<32-1, []byte("a"))} {
		cuts(t, "other bytes behind", join(whole, behind), payloads, len(whole))
		cuts(t, "and a frame behind these", join(whole, behind, framed([]byte("e"))), payloads, len(whole))
	}
}

// P3.3: whole ones are those that end at the cut, or ahead of it.
func TestCutTellsJustTheWholeOnes(t *testing.T) {
	payloads := [][]byte{[]byte("a"), []byte("bcd"), {0}, make([]byte, 9), framed([]byte("e")), random(300, 1), []byte("z")}
	var b []byte
	var ends []int
	for _, p := range payloads {
		b = join(b, framed(p))
		ends = append(ends, len(b))
	}
	for n := range len(b) + 1 {
		whole, place := 0, 0
		for whole < len(ends) && ends[whole] <= n {
			place = ends[whole]
			whole++
		}
		cuts(t, fmt.Sprintf("cut off at %d", n), b[:n], payloads[:whole], place)
	}
}

// P3.3: at each place at which a byte of the longest may be cut off that matters.
func TestCutOfTheLongestCutOff(t *testing.T) {
	long, small := random(longest, 1), []byte("a")
	b := join(framed(small), framed(long), framed(small))
	cuts(t, "whole", b, [][]byte{small, long, small}, len(b))
	for _, n := range []int{9, 10, 16, 17, 18, longest, longest + 15, longest + 16} {
		cuts(t, "within the longest", b[:n], [][]byte{small}, 9)
	}
	cuts(t, "behind the longest", b[:longest+17], [][]byte{small, long}, longest+17)
	cuts(t, "one behind the longest", b[:longest+18], [][]byte{small, long}, longest+17)
}

// P3.2, P3.3: a turned byte ends the whole ones ahead of its frame.
func TestCutEndsAheadOfATurnedByte(t *testing.T) {
	payloads := [][]byte{[]byte("ab"), []byte("c"), random(20, 1)}
	b, ends := []byte{}, []int{}
	for _, p := range payloads {
		b = join(b, framed(p))
		ends = append(ends, len(b))
	}
	for at := range b {
		whole, place := 0, 0
		for ends[whole] <= at {
			place = ends[whole]
			whole++
		}
		b[at] ^= 1 << (at % 8)
		cuts(t, fmt.Sprintf("turned at %d", at), b, payloads[:whole], place)
		b[at] ^= 1 << (at % 8)
	}
}

// P3.1: random bytes that are made so that lengths are often good.
func TestRandomBytes(t *testing.T) {
	r := rand.New(rand.NewSource(5))
	for range 3000 {
		var b []byte
		for range r.Intn(5) {
			p := random(1+r.Intn(12), r.Int63())
			switch r.Intn(6) {
			case 0:
				b = join(b, withLength(uint32(r.Intn(14)), p))
			case 1:
				b = join(b, p)
			default:
				b = join(b, framed(p))
			}
		}
		l, place := cutByHand(b)
		cuts(t, "random bytes", b, l, place)
		if len(l) == 1 && place == len(b) {
			opens(t, b, l[0])
		} else {
			refuses(t, "random bytes", b)
		}
	}
}

// cutByHand tries each length at each place, and takes what the chapter's words make of the same bytes.
func cutByHand(b []byte) ([][]byte, int) {
	var l [][]byte
	place := 0
	for {
		n := 1
		for place+head+n <= len(b) && !bytes.HasPrefix(b[place:], framed(b[place+head:place+head+n])) {
			n++
		}
		if place+head+n > len(b) {
			return l, place
		}
		l = append(l, b[place+head:place+head+n])
		place += head + n
	}
}

// R3, R6: what lies behind the length is not read, nor written.
func TestWhatLiesBehindTheLength(t *testing.T) {
	room := framed([]byte("abc"))
	was := bytes.Clone(room)
	refuses(t, "the last byte is behind the length", room[:len(room)-1])
	cuts(t, "the last byte is behind the length", room[:len(room)-1], nil, 0)
	if _, e := frame.Seal(room[:0]); e != api.ErrArg {
		t.Errorf("Seal of no bytes with spare room = %d, want ErrArg", e)
	}
	seals(t, room[:2], framed(room[:2]))
	two := join(room, room)
	opens(t, two[:len(room)], []byte("abc"))
	cuts(t, "a frame behind the length", two[:len(room)], [][]byte{[]byte("abc")}, len(room))
	if !bytes.Equal(room, was) || !bytes.Equal(two, join(was, was)) {
		t.Error("what lies behind the length was changed")
	}
}

// fill writes all over a list's memory, its spare room too.
func fill(b []byte) {
	b = b[:cap(b)]
	for i := range b {
		b[i] = 0xee
	}
}

// R3
func TestSealSharesNothing(t *testing.T) {
	for _, p := range somePayloads() {
		given := bytes.Clone(p)
		b, _ := frame.Seal(given)
		again, _ := frame.Seal(given)
		fill(b)
		if !bytes.Equal(given, p) || !bytes.Equal(again, framed(p)) {
			t.Fatalf("Seal of %d bytes shares its answer", len(p))
		}
		fill(given)
		if !bytes.Equal(again, framed(p)) {
			t.Fatalf("Seal of %d bytes keeps what it was given", len(p))
		}
	}
}

// R3
func TestOpenSharesNothing(t *testing.T) {
	for _, p := range somePayloads() {
		given := framed(p)
		got, _ := frame.Open(given)
		again, _ := frame.Open(given)
		fill(got)
		if !bytes.Equal(given, framed(p)) || !bytes.Equal(again, p) {
			t.Fatalf("Open of %d bytes shares its answer", len(given))
		}
		fill(given)
		if !bytes.Equal(again, p) {
			t.Fatalf("Open of %d bytes keeps what it was given", len(given))
		}
	}
}

// R3: no two payloads of one answer share any, and the bytes behind the last frame aren't handed out either.
func TestCutSharesNothing(t *testing.T) {
	payloads := [][]byte{[]byte("a"), []byte("bcd"), random(9, 1), random(33, 2), random(1000, 3), []byte("z")}
	var whole []byte
	for _, p := range payloads {
		whole = join(whole, framed(p))
	}
	for _, behind := range [][]byte{nil, []byte("other bytes")} {
		b := join(whole, behind)
		given := bytes.Clone(b)
		for i := range payloads {
			l, _, _ := frame.Cut(given)
			fill(l[i])
			for j, p := range l {
				if j != i && !bytes.Equal(p, payloads[j]) {
					t.Errorf("payloads %d and %d share memory", i, j)
				}
			}
			if !bytes.Equal(given, b) {
				t.Errorf("payload %d shares memory with what was handed in", i)
			}
		}
		l, _, _ := frame.Cut(given)
		fill(given)
		if !reflect.DeepEqual(l, payloads) {
			t.Error("Cut keeps what it was given")
		}
	}
}

// The chapter's way: a payload is handed out with no spare room.
func TestPayloadsHaveNoSpareRoom(t *testing.T) {
	var b []byte
	for _, p := range somePayloads() {
		b = join(b, framed(p))
		if got, _ := frame.Open(framed(p)); cap(got) != len(got) {
			t.Errorf("Open of a payload of %d bytes has room for %d", len(got), cap(got))
		}
	}
	l, _, _ := frame.Cut(b)
	for _, p := range l {
		if cap(p) != len(p) {
			t.Errorf("Cut's payload of %d bytes has room for %d", len(p), cap(p))
		}
	}
}

// R8
func TestTheSameAnswersAgain(t *testing.T) {
	b := join(framed([]byte("a")), framed([]byte("bc")), []byte("d"))
	for range 3 {
		seals(t, []byte("a"), b[:9])
		opens(t, b[:9], []byte("a"))
		refuses(t, "again", b)
		cuts(t, "again", b, [][]byte{[]byte("a"), []byte("bc")}, 19)
	}
}
