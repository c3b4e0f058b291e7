package sum_test

import (
	"bytes"
	"hash/crc32"
	"math/big"
	"math/rand"
	"strings"
	"testing"

	"meridian/sum"
)

// The exact signatures: another one would not build.
var (
	_ func([]byte) uint32         = sum.Of
	_ func(uint32, []byte) uint32 = sum.More
	_ func(string) uint64         = sum.Hash
)

// bitwise works the register as the chapter tells it, bit by bit, and so shares nothing with the table.
func bitwise(s uint32, b []byte) uint32 {
	register := ^s
	for _, c := range b {
		register ^= uint32(c)
		for range 8 {
			out := register & 1
			register >>= 1
			if out == 1 {
				register ^= 0xEDB88320
			}
		}
	}
	return ^register
}

// bigHash works in whole numbers, each time modulo 2^64, and so shares no wrap-round with the program.
func bigHash(b []byte) uint64 {
	number := func(digits string) *big.Int {
		n, _ := new(big.Int).SetString(digits, 10)
		return n
	}
	modulus := new(big.Int).Lsh(big.NewInt(1), 64)
	times := func(h *big.Int, by string) {
		h.Mul(h, number(by))
		h.Mod(h, modulus)
	}
	fold := func(h *big.Int) { h.Xor(h, new(big.Int).Rsh(h, 32)) }
	h := number("14695981039346656037")
	for _, c := range b {
		h.Xor(h, big.NewInt(int64(c)))
		times(h, "1099511628211")
	}
	fold(h)
	times(h, "15459136393263645077")
	fold(h)
	return h.Uint64()
}

func randomText(r *rand.Rand, n int) []byte {
	b := make([]byte, n)
	r.Read(b)
	return b
}

func join(pieces ...[]byte) []byte { return bytes.Join(pieces, nil) }

// texts are ordinary ones, and those at the edges: none, one byte, all noughts, all ones, every byte.
func texts() [][]byte {
	every := make([]byte, 256)
	for i := range every {
		every[i] = byte(i)
	}
	l := [][]byte{
		nil, {}, {0}, {0xFF}, {0, 0}, []byte("a"), []byte("123456789"), []byte("k0"), every,
		bytes.Repeat([]byte{0}, 100), bytes.Repeat([]byte{0xFF}, 100),
	}
	r := rand.New(rand.NewSource(1))
	for n := range 70 {
		l = append(l, randomText(r, n))
	}
	return append(l, randomText(r, 1024), randomText(r, 65536))
}

// numbers are sums to go on from, whether or not a text has them.
func numbers() []uint32 {
	l := []uint32{0, 1, 0xFFFFFFFF, 0x80000000, 0x7FFFFFFF, 0xDEADBEEF, 0xEDB88320, 0xCBF43926}
	r := rand.New(rand.NewSource(2))
	for range 20 {
		l = append(l, r.Uint32())
	}
	return l
}

// P1.1
func TestOfKnown(t *testing.T) {
	for _, c := range []struct {
		text string
		want uint32
	}{
		{"", 0},
		{"123456789", 0xCBF43926},
		{"a", 0xE8B7BE43},
		{"b", 0x71BEEFF9},
		{"k0", 0xE109903F},
		{"\x00", 0xD202EF8D},
		{"\x00\x00", 0x41D912FF},
		{"\xff\xfe", 0x88F83096},
		{"The quick brown fox jumps over the lazy dog", 0x414FA339},
	} {
		if got := sum.Of([]byte(c.text)); got != c.want {
			t.Errorf("Of(%q) = %08X, want %08X", c.text, got, c.want)
		}
	}
	if got := sum.Of(nil); got != 0 {
		t.Errorf("Of(nil) = %08X, want 0", got)
	}
}

// P1.1
func TestOfIsTheRegister(t *testing.T) {
	for _, b := range texts() {
		got := sum.Of(b)
		if want := bitwise(0, b); got != want {
			t.Errorf("Of of %d bytes = %08X, want %08X", len(b), got, want)
		}
		if want := crc32.ChecksumIEEE(b); got != want {
			t.Errorf("Of of %d bytes = %08X, IEEE 802.3 has %08X", len(b), got, want)
		}
	}
	for c := range 256 {
		if got, want := sum.Of([]byte{byte(c)}), bitwise(0, []byte{byte(c)}); got != want {
			t.Errorf("Of of the byte %d = %08X, want %08X", c, got, want)
		}
	}
}

// P1.1
func TestMoreKnown(t *testing.T) {
	for _, c := range []struct {
		from uint32
		text string
		want uint32
	}{
		{0, "", 0},
		{0, "123456789", 0xCBF43926},
		{1, "", 1},
		{1, "\x00", 0xA505DF1B},
		{1, "123456789", 0xDC8F2D65},
		{0xFFFFFFFF, "", 0xFFFFFFFF},
		{0xFFFFFFFF, "\x00", 0xFFFFFFFF},
		{0xFFFFFFFF, "a", 0xC54AAE31},
		{0xFFFFFFFF, "123456789", 0xD202D277},
		{0x80000000, "a", 0xE837BE43},
		{0xDEADBEEF, "", 0xDEADBEEF},
		{0xDEADBEEF, "123456789", 0xE34F7C78},
	} {
		if got := sum.More(c.from, []byte(c.text)); got != c.want {
			t.Errorf("More(%08X, %q) = %08X, want %08X", c.from, c.text, got, c.want)
		}
	}
}

// P1.1: any number is gone on from, and no bytes leave it as it is.
func TestMoreOfAnyNumber(t *testing.T) {
	for _, s := range numbers() {
		if got := sum.More(s, nil); got != s {
			t.Errorf("More(%08X, nil) = %08X", s, got)
		}
		for _, b := range texts() {
			if got, want := sum.More(s, b), bitwise(s, b); got != want {
				t.Errorf("More(%08X) of %d bytes = %08X, want %08X", s, len(b), got, want)
			}
		}
	}
}

// P1.1
func TestMoreOfZeroIsOf(t *testing.T) {
	for _, b := range texts() {
		if got, want := sum.More(0, b), sum.Of(b); got != want {
			t.Errorf("More(0) of %d bytes = %08X, Of is %08X", len(b), got, want)
		}
	}
}

// P1.1
func TestHashKnown(t *testing.T) {
	for _, c := range []struct {
		text string
		want uint64
	}{
		{"", 352738369516564984},
		{"a", 15713905786034068942},
		{"b", 9468752127241287033},
		{"k0", 10540629232012355917},
		{"123456789", 13627503088492627058},
		{"\x00", 1657512222410870810},
		{"\x00\x00", 16479696121828622717},
		{"\xc3\xa4", 11276432000071305793}, // one rune, two bytes
		{"\xff\xfe", 7109916669097757961},  // no runes at all
		{"The quick brown fox jumps over the lazy dog", 8227116503193763479},
		{strings.Repeat("\x80", 1000), 0x1B54ACA288C288D8},
	} {
		if got := sum.Hash(c.text); got != c.want {
			t.Errorf("Hash(%q) = %d, want %d", c.text, got, c.want)
		}
	}
}

// P1.1
func TestHashIsTheRule(t *testing.T) {
	for _, b := range texts() {
		if got, want := sum.Hash(string(b)), bigHash(b); got != want {
			t.Errorf("Hash of %d bytes = %d, want %d", len(b), got, want)
		}
	}
	for c := range 256 {
		b := []byte{byte(c)}
		if got, want := sum.Hash(string(b)), bigHash(b); got != want {
			t.Errorf("Hash of the byte %d = %d, want %d", c, got, want)
		}
	}
}

// P1.2: cut at its beginning, at each place within it, and at its end.
func TestMoreGoesOnAtEachCut(t *testing.T) {
	for _, b := range texts() {
		if len(b) > 1024 {
			continue
		}
		whole := sum.Of(b)
		for cut := range len(b) + 1 {
			if got := sum.More(sum.Of(b[:cut]), b[cut:]); got != whole {
				t.Fatalf("%d bytes cut at %d: %08X, the whole is %08X", len(b), cut, got, whole)
			}
		}
	}
}

// P1.2: pieces of whatever lengths, none among them, and from any number on.
func TestMoreGoesOnByPieces(t *testing.T) {
	r := rand.New(rand.NewSource(3))
	for _, s := range numbers() {
		var all []byte
		piecewise := s
		for range 12 {
			piece := randomText(r, r.Intn(9))
			all = join(all, piece)
			piecewise = sum.More(piecewise, piece)
			if whole := sum.More(s, all); piecewise != whole {
				t.Fatalf("from %08X, %d bytes: %08X by pieces, %08X whole", s, len(all), piecewise, whole)
			}
		}
	}
}

// P1.3: all texts of one byte and of two bytes.
func TestShortTextsHaveSumsOfTheirOwn(t *testing.T) {
	seen := map[uint32][]byte{}
	note := func(b []byte) {
		s := sum.Of(b)
		if other, ok := seen[s]; ok {
			t.Fatalf("%v and %v have the sum %08X", other, b, s)
		}
		seen[s] = b
	}
	for x := range 256 {
		note([]byte{byte(x)})
	}
	clear(seen)
	for x := range 65536 {
		note([]byte{byte(x), byte(x >> 8)})
	}
}

// differ holds a text against one that has, from a place on, other bytes.
func differ(t *testing.T, b []byte, at int, by []byte) {
	t.Helper()
	other := bytes.Clone(b)
	for i, x := range by {
		other[at+i] ^= x
	}
	if bytes.Equal(b, other) {
		return
	}
	if sum.Of(b) == sum.Of(other) {
		t.Fatalf("%d bytes, changed at %d by %v: the same sum %08X", len(b), at, by, sum.Of(b))
	}
}

// P1.3: one to four bytes side by side, at the beginning, at each place within, and at the end.
func TestTextsThatDifferSideBySide(t *testing.T) {
	r := rand.New(rand.NewSource(4))
	for _, n := range []int{1, 2, 3, 4, 5, 8, 9, 64, 200} {
		b := randomText(r, n)
		for wide := 1; wide <= min(4, n); wide++ {
			for at := 0; at+wide <= n; at++ {
				differ(t, b, at, bytes.Repeat([]byte{0xFF}, wide))
				for range 50 {
					differ(t, b, at, randomText(r, wide))
				}
			}
		}
	}
}

// P1.3: one byte that differs by each number, at the beginning, within and at the end of a text.
func TestTextsThatDifferInOneByte(t *testing.T) {
	b := randomText(rand.New(rand.NewSource(5)), 300)
	for _, at := range []int{0, 1, 150, 298, 299} {
		for by := 1; by < 256; by++ {
			differ(t, b, at, []byte{byte(by)})
		}
	}
}

// independent tells whether no xor of some of the words is 0.
func independent(words []uint32) bool {
	var lead [32]uint32
	for _, w := range words {
		for bit := 31; bit >= 0; bit-- {
			if w>>bit&1 == 0 {
				continue
			}
			if lead[bit] == 0 {
				lead[bit] = w
				break
			}
			w ^= lead[bit]
		}
		if w == 0 {
			return false
		}
	}
	return true
}

// P1.3: how two sums differ hangs on how the texts differ alone, and is the xor of what each bit does; so where no xor of the 32 bits' doings is 0, none of the 2^32 - 1 changes of four bytes is unseen.
func TestNoChangeOfFourBytesIsUnseen(t *testing.T) {
	const n = 40
	r := rand.New(rand.NewSource(6))
	for at := 0; at+4 <= n; at++ {
		b := randomText(r, n)
		whole := sum.Of(b)
		turned := func(by uint32) uint32 {
			c := bytes.Clone(b)
			for i := range 4 {
				c[at+i] ^= byte(by >> (8 * i))
			}
			return sum.Of(c) ^ whole
		}
		var words []uint32
		for bit := range 32 {
			words = append(words, turned(1<<bit))
		}
		if !independent(words) {
			t.Fatalf("a change of four bytes at %d of %d leaves the sum", at, n)
		}
		for range 100 {
			x, y := r.Uint32(), r.Uint32()
			if turned(x)^turned(y) != turned(x^y) {
				t.Fatalf("at %d: changes by %08X and %08X don't add up", at, x, y)
			}
		}
	}
}

// R3, R6: what is handed in stays, and what lies behind its length is neither read nor changed.
func TestTextsAreOnlyRead(t *testing.T) {
	backing := []byte("123456789behind")
	kept := bytes.Clone(backing)
	b := backing[:9]
	if got := sum.Of(b); got != 0xCBF43926 {
		t.Errorf("Of with spare room: %08X", got)
	}
	if got := sum.More(sum.Of(b[:4]), b[4:]); got != 0xCBF43926 {
		t.Errorf("More with spare room: %08X", got)
	}
	if !bytes.Equal(backing, kept) {
		t.Errorf("the bytes are %q now", backing)
	}
}

// R8: the same answer whatever was asked between.
func TestNothingIsKept(t *testing.T) {
	r := rand.New(rand.NewSource(7))
	for _, b := range texts() {
		of, more, hash := sum.Of(b), sum.More(77, b), sum.Hash(string(b))
		other := randomText(r, 20)
		sum.Of(other)
		sum.More(r.Uint32(), other)
		sum.Hash(string(other))
		if sum.Of(b) != of || sum.More(77, b) != more || sum.Hash(string(b)) != hash {
			t.Fatalf("%d bytes: another answer the second time", len(b))
		}
	}
}
