package pack_test

import (
	"bytes"
	"fmt"
	"math"
	"math/big"
	"math/rand"
	"strings"
	"testing"

	"meridian/api"
	"meridian/pack"
)

// The exact signatures: another one would not build.
var (
	_ func(*pack.Writer, int)                = (*pack.Writer).Num
	_ func(*pack.Writer, bool)               = (*pack.Writer).Flag
	_ func(*pack.Writer, string)             = (*pack.Writer).Text
	_ func(*pack.Writer) ([]byte, api.Errno) = (*pack.Writer).Bytes
	_ func([]byte) *pack.Reader              = pack.Read
	_ func(*pack.Reader) int                 = (*pack.Reader).Num
	_ func(*pack.Reader) bool                = (*pack.Reader).Flag
	_ func(*pack.Reader, int) string         = (*pack.Reader).Text
	_ func(*pack.Reader, int) int            = (*pack.Reader).Count
	_ func(*pack.Reader) api.Errno           = (*pack.Reader).End
)

const greatest = 1 << 53

// digits are a number's bytes as the chapter tells them, in whole numbers, and so share no shift with the program.
func digits(n int) []byte {
	left, digit := big.NewInt(int64(n)), new(big.Int)
	var b []byte
	for {
		left.DivMod(left, big.NewInt(128), digit)
		if left.Sign() == 0 {
			return append(b, byte(digit.Int64()))
		}
		b = append(b, byte(digit.Int64()+128))
	}
}

func join(pieces ...[]byte) []byte { return bytes.Join(pieces, nil) }

// goodNumbers are those at the edges: of the range, of each count of digits, of each power of two.
func goodNumbers() []int {
	l := []int{0, 1, 2, 5, 127, 128, 129, 255, 256, 300, 16383, 16384, 65536, greatest - 1, greatest}
	for k := 2; k <= 53; k++ {
		l = append(l, 1<<k-1, 1<<k)
		if k < 53 {
			l = append(l, 1<<k+1)
		}
	}
	r := rand.New(rand.NewSource(1))
	for range 200 {
		l = append(l, r.Intn(1<<(1+r.Intn(53))))
	}
	return l
}

func badNumbers() []int {
	return []int{-1, -2, -127, -128, -greatest, math.MinInt, math.MinInt32,
		greatest + 1, greatest + 128, 1 << 56, 1<<56 + 5, 1 << 60, math.MaxInt - 1, math.MaxInt}
}

func someTexts() []string {
	return []string{"", "a", "ab", "\x00", "\xff\xfe", "\x80\x00", "k0", "Grüße", strings.Repeat("x", 127),
		strings.Repeat("y", 128), strings.Repeat("\x00", 300), strings.Repeat("z", 16384), strings.Repeat("\xff", 70000)}
}

// short keeps what a failing test tells within bounds.
func short(b []byte) string {
	if len(b) > 40 {
		return fmt.Sprintf("%v.. (%d bytes)", b[:40], len(b))
	}
	return fmt.Sprint(b)
}

func wrote(t *testing.T, w *pack.Writer, want []byte) {
	t.Helper()
	if b, e := w.Bytes(); e != api.OK || !bytes.Equal(b, want) {
		t.Errorf("Bytes() = %s, %d; want %s, OK", short(b), e, short(want))
	}
}

func isSpoilt(t *testing.T, w *pack.Writer) {
	t.Helper()
	if b, e := w.Bytes(); e != api.ErrArg || len(b) != 0 {
		t.Errorf("Bytes() of a spoilt writer = %s, %d; want none, ErrArg", short(b), e)
	}
}

// isFaulty asks for everything that a reader has, twice: a fault stays.
func isFaulty(t *testing.T, r *pack.Reader) {
	t.Helper()
	for range 2 {
		if e := r.End(); e != api.ErrForm {
			t.Errorf("End() = %d behind a fault, want ErrForm", e)
		}
		if n := r.Num(); n != 0 {
			t.Errorf("Num() = %d behind a fault, want 0", n)
		}
		if r.Flag() {
			t.Error("Flag() is true behind a fault")
		}
		for _, most := range []int{math.MinInt, -1, 0, 1, 100, greatest, math.MaxInt} {
			if s := r.Text(most); s != "" {
				t.Errorf("Text(%d) = %q behind a fault, want none", most, s)
			}
			if n := r.Count(most); n != 0 {
				t.Errorf("Count(%d) = %d behind a fault, want 0", most, n)
			}
		}
	}
}

// P2.1
func TestNumbersAreWritten(t *testing.T) {
	for _, c := range []struct {
		n    int
		want []byte
	}{
		{0, []byte{0}}, {1, []byte{1}}, {5, []byte{5}}, {127, []byte{127}},
		{128, []byte{128, 1}}, {129, []byte{129, 1}}, {300, []byte{172, 2}}, {16383, []byte{255, 127}},
		{16384, []byte{128, 128, 1}},
		{greatest - 1, []byte{255, 255, 255, 255, 255, 255, 255, 15}},
		{greatest, []byte{128, 128, 128, 128, 128, 128, 128, 16}},
	} {
		w := &pack.Writer{}
		w.Num(c.n)
		wrote(t, w, c.want)
	}
	for _, n := range goodNumbers() {
		w := &pack.Writer{}
		w.Num(n)
		wrote(t, w, digits(n))
	}
}

// P2.1
func TestFlagsAreWritten(t *testing.T) {
	w := &pack.Writer{}
	w.Flag(true)
	wrote(t, w, []byte{1})
	w.Flag(false)
	w.Flag(false)
	w.Flag(true)
	wrote(t, w, []byte{1, 0, 0, 1})
}

// P2.1
func TestTextsAreWritten(t *testing.T) {
	for _, s := range someTexts() {
		w := &pack.Writer{}
		w.Text(s)
		wrote(t, w, join(digits(len(s)), []byte(s)))
	}
}

// P2.1
func TestANewWriterHasNothing(t *testing.T) {
	var w pack.Writer
	wrote(t, &w, nil)
	wrote(t, new(pack.Writer), nil)
}

// P2.1
func TestAWriterGoesOnBehindBytes(t *testing.T) {
	w := &pack.Writer{}
	var want []byte
	for i, n := range goodNumbers() {
		s := someTexts()[i%8]
		w.Num(n)
		wrote(t, w, join(want, digits(n)))
		w.Flag(i%2 == 0)
		w.Text(s)
		want = join(want, digits(n), []byte{byte(1 - i%2)}, digits(len(s)), []byte(s))
		wrote(t, w, want)
		wrote(t, w, want)
	}
}

// P2.1
func TestWhatIsNoNumberSpoils(t *testing.T) {
	for _, n := range badNumbers() {
		w := &pack.Writer{}
		w.Num(n)
		isSpoilt(t, w)
		isSpoilt(t, w)
		w.Num(1)
		isSpoilt(t, w)
		w.Flag(true)
		isSpoilt(t, w)
		w.Text("ab")
		isSpoilt(t, w)
		w.Text("")
		w.Num(n)
		isSpoilt(t, w)
	}
}

// P2.1
func TestWhatWasWrittenAheadIsSpoiltToo(t *testing.T) {
	for _, n := range badNumbers() {
		w := &pack.Writer{}
		w.Num(300)
		w.Text("ab")
		b, _ := w.Bytes()
		w.Num(n)
		isSpoilt(t, w)
		w.Num(0)
		isSpoilt(t, w)
		if string(b) != "\xac\x02\x02ab" {
			t.Errorf("what was answered ahead has become %v", b)
		}
	}
}

// P2.1
func TestANilWriter(t *testing.T) {
	var w *pack.Writer
	isSpoilt(t, w)
	for _, n := range append(badNumbers(), goodNumbers()...) {
		w.Num(n)
	}
	w.Flag(true)
	w.Flag(false)
	w.Text("")
	w.Text("ab")
	isSpoilt(t, w)
}

// P2.1
func TestANilReader(t *testing.T) {
	var r *pack.Reader
	isFaulty(t, r)
}

// P2.1
func TestNumbersAreRead(t *testing.T) {
	for _, n := range goodNumbers() {
		r := pack.Read(digits(n))
		if got := r.Num(); got != n {
			t.Errorf("Num() of %v = %d, want %d", digits(n), got, n)
		}
		if e := r.End(); e != api.OK {
			t.Errorf("End() behind %d = %d, want OK", n, e)
		}
		if r.Num() != 0 || r.End() != api.ErrForm {
			t.Errorf("a number was read behind the last")
		}
		isFaulty(t, r)
	}
}

// P2.1
func TestNumbersOfTwoBytesAtMost(t *testing.T) {
	number := map[string]int{}
	for n := range 128 * 128 {
		number[string(digits(n))] = n
	}
	for first := range 256 {
		for second := range 257 {
			b := []byte{byte(first), byte(second)}
			if second == 256 {
				b = b[:1]
			}
			want, good := number[string(b)]
			left := false
			if !good {
				want, left = number[string(b[:1])]
			}
			r := pack.Read(b)
			if got := r.Num(); got != want {
				t.Fatalf("Num() of %v = %d, want %d", b, got, want)
			}
			if e := r.End(); (e == api.OK) != good || e != api.OK && e != api.ErrForm {
				t.Fatalf("End() behind Num() of %v = %d", b, e)
			}
			if !left && !good {
				isFaulty(t, r)
			}
		}
	}
}

// faultyNumbers are bytes at whose beginning no number stands.
func faultyNumbers() [][]byte {
	full := func(n int) []byte { return bytes.Repeat([]byte{255}, n) }
	high := func(n int) []byte { return bytes.Repeat([]byte{128}, n) }
	l := [][]byte{
		nil, {}, {128}, {255}, {128, 128}, {255, 255, 255},
		{128, 0}, {129, 0}, {255, 0}, {172, 130, 0}, {128, 128, 0}, {128, 0, 0}, {128, 0, 1},
		join(digits(greatest)[:7], []byte{144, 0}), // the greatest, with a nought behind
		join([]byte{129}, high(6), []byte{16}),     // the greatest and one
		join(high(7), []byte{17}), join(high(7), []byte{32}), join(high(7), []byte{127}),
		join(full(7), []byte{16}), join(full(7), []byte{127}),
		join(high(7), []byte{0}), join(high(8), []byte{0}), join(high(8), []byte{1}),
		join(full(8), []byte{1}), join(high(9), []byte{1}), join(high(9), []byte{2}), join(full(9), []byte{1}),
		join([]byte{133}, high(8), []byte{2}), // would be 5, if its highest bits fell off
		join([]byte{133}, high(9), []byte{1}), join(high(30), []byte{1}), full(7), full(8), full(9), full(10), full(100), high(100),
	}
	for _, n := range goodNumbers() {
		b := digits(n)
		l = append(l, b[:len(b)-1])
		open := join(b[:len(b)-1], []byte{b[len(b)-1] + 128})
		l = append(l, open, join(open, []byte{0}), join(open, []byte{128, 0}))
	}
	for _, n := range badNumbers() {
		if n > 0 {
			l = append(l, digits(n))
		}
	}
	return l
}

// P2.1
func TestFaultyNumbers(t *testing.T) {
	for _, b := range faultyNumbers() {
		ways := map[string]func(r *pack.Reader) bool{
			"Num":   func(r *pack.Reader) bool { return r.Num() == 0 },
			"Flag":  func(r *pack.Reader) bool { return !r.Flag() },
			"Text":  func(r *pack.Reader) bool { return r.Text(math.MaxInt) == "" },
			"Count": func(r *pack.Reader) bool { return r.Count(math.MaxInt) == 0 },
		}
		for name, zero := range ways {
			r := pack.Read(b)
			if !zero(r) {
				t.Errorf("%s of %v is not zero", name, b)
			}
			isFaulty(t, r)
		}
	}
}

// P2.1: what stands behind a fault is good, and isn't read all the same.
func TestNothingIsReadBehindAFault(t *testing.T) {
	good := []byte{1, 1, 1, 1, 1, 1, 1, 1}
	for _, b := range [][]byte{{128, 0}, {133, 128, 0}, digits(greatest + 1), digits(math.MaxInt)} {
		r := pack.Read(join([]byte{7}, b, good))
		if r.Num() != 7 || r.Num() != 0 {
			t.Errorf("Num() ahead of the fault, or of it: %v", b)
		}
		isFaulty(t, r)
	}
	for _, ask := range []func(r *pack.Reader) bool{
		func(r *pack.Reader) bool { return r.Flag() },
		func(r *pack.Reader) bool { return r.Text(1) != "" },
		func(r *pack.Reader) bool { return r.Count(1) != 0 },
	} {
		r := pack.Read(join([]byte{2}, good))
		if ask(r) {
			t.Error("2 was read as a flag, a count of at most 1, or a text of at most 1 byte")
		}
		isFaulty(t, r)
	}
}

// P2.1
func TestFlagsAreRead(t *testing.T) {
	for c := range 256 {
		r := pack.Read([]byte{byte(c)})
		if got := r.Flag(); got != (c == 1) {
			t.Errorf("Flag() of %d = %v", c, got)
		}
		if e := r.End(); (e == api.OK) != (c <= 1) {
			t.Errorf("End() behind Flag() of %d = %d", c, e)
		}
		if c > 1 {
			isFaulty(t, r)
		}
	}
	r := pack.Read([]byte{1, 0, 1, 1})
	if !r.Flag() || r.Flag() || !r.Flag() || r.End() != api.ErrForm || !r.Flag() || r.End() != api.OK {
		t.Error("flags behind one another")
	}
	if r.Flag() || r.End() != api.ErrForm {
		t.Error("a flag was read behind the last")
	}
}

// P2.1
func TestFlagsThatAreTooLong(t *testing.T) {
	for _, b := range [][]byte{{128, 0}, {129, 0}, {129, 1}, {128, 2}, {129}, {128}} {
		r := pack.Read(b)
		if r.Flag() {
			t.Errorf("Flag() of %v is true", b)
		}
		isFaulty(t, r)
	}
}

// P2.1
func TestTextsOfMostBytes(t *testing.T) {
	for _, s := range someTexts() {
		b := join(digits(len(s)), []byte(s))
		for _, most := range []int{len(s), len(s) + 1, greatest, math.MaxInt} {
			r := pack.Read(b)
			if got := r.Text(most); got != s {
				t.Errorf("Text(%d) = %.20q, want %.20q", most, got, s)
			}
			if e := r.End(); e != api.OK {
				t.Errorf("End() behind Text(%d) = %d, want OK", most, e)
			}
			if r.Text(most) != "" || r.End() != api.ErrForm {
				t.Error("a text was read behind the last")
			}
		}
		for _, most := range []int{len(s) - 1, -1, math.MinInt} {
			r := pack.Read(b)
			if got := r.Text(most); got != "" {
				t.Errorf("Text(%d) = %.20q, of %d bytes", most, got, len(s))
			}
			isFaulty(t, r)
		}
	}
}

// P2.1
func TestTextsThatEndTooSoon(t *testing.T) {
	for _, s := range someTexts()[:10] {
		b := join(digits(len(s)), []byte(s))
		for n := range b {
			r := pack.Read(b[:n])
			if got := r.Text(math.MaxInt); got != "" {
				t.Errorf("Text() of %d bytes of %d = %q", n, len(b), got)
			}
			isFaulty(t, r)
		}
	}
	for _, n := range []int{1, 127, 128, 1 << 31, 1 << 32, 1<<32 + 2, greatest - 1, greatest} {
		r := pack.Read(digits(n))
		if r.Text(math.MaxInt) != "" {
			t.Errorf("a text of %d bytes was read, of none", n)
		}
		isFaulty(t, r)
	}
	r := pack.Read(join(digits(1<<32+2), []byte("ab")))
	if r.Text(math.MaxInt) != "" {
		t.Error("a text of 2^32 + 2 bytes was read, of 2")
	}
	isFaulty(t, r)
}

// P2.1
func TestTextsWhoseNumberIsNotShort(t *testing.T) {
	for _, b := range [][]byte{{128, 0}, {129, 0, 97}, {130, 0, 97, 98}, {130, 128, 0, 97, 98}} {
		r := pack.Read(b)
		if got := r.Text(100); got != "" {
			t.Errorf("Text() of %v = %q", b, got)
		}
		isFaulty(t, r)
	}
}

// P2.1
func TestCountsOfMost(t *testing.T) {
	for _, n := range goodNumbers() {
		for _, most := range []int{n, n + 1, greatest, greatest + 1, math.MaxInt} {
			if r := pack.Read(digits(n)); r.Count(most) != n || r.End() != api.OK {
				t.Errorf("Count(%d) of %d", most, n)
			}
		}
		for _, most := range []int{n - 1, n - 2, -1, math.MinInt} {
			if most >= n {
				continue
			}
			r := pack.Read(digits(n))
			if got := r.Count(most); got != 0 {
				t.Errorf("Count(%d) of %d = %d, want 0", most, n, got)
			}
			isFaulty(t, r)
		}
	}
}

// P2.1
func TestEndTellsOnly(t *testing.T) {
	r := pack.Read([]byte{172, 2, 1, 2, 97, 98, 3})
	for _, ask := range []func() bool{
		func() bool { return r.Num() == 300 },
		func() bool { return r.Flag() },
		func() bool { return r.Text(2) == "ab" },
		func() bool { return r.Count(3) == 3 },
	} {
		if r.End() != api.ErrForm || r.End() != api.ErrForm {
			t.Error("End() is OK while bytes are left")
		}
		if !ask() {
			t.Error("behind End() it is not read on")
		}
	}
	if r.End() != api.OK || r.End() != api.OK {
		t.Error("End() is not OK at the end")
	}
}

// P2.1
func TestAReaderOfNothing(t *testing.T) {
	for _, b := range [][]byte{nil, {}, make([]byte, 0, 10)} {
		r := pack.Read(b)
		if r == nil || r.End() != api.OK || r.End() != api.OK {
			t.Error("a reader of nothing is not at its end")
		}
		if r.Num() != 0 {
			t.Error("a number was read of nothing")
		}
		isFaulty(t, r)
	}
}

// part is one thing that is written and read.
type part struct {
	kind string // num, flag, text, count
	n    int
	on   bool
	s    string
}

func (p part) String() string {
	return fmt.Sprintf("%s %d %v %.40q", p.kind, p.n, p.on, p.s)
}

func randomPart(r *rand.Rand) part {
	switch r.Intn(4) {
	case 0:
		return part{kind: "num", n: r.Intn(1<<r.Intn(54)) + r.Intn(2)}
	case 1:
		return part{kind: "flag", on: r.Intn(2) == 0}
	case 2:
		b := make([]byte, r.Intn(4)*r.Intn(100))
		r.Read(b)
		return part{kind: "text", s: string(b)}
	}
	return part{kind: "count", n: r.Intn(1 << r.Intn(20))}
}

func write(l []part) *pack.Writer {
	w := &pack.Writer{}
	for _, p := range l {
		switch p.kind {
		case "flag":
			w.Flag(p.on)
		case "text":
			w.Text(p.s)
		default:
			w.Num(p.n)
		}
	}
	return w
}

func readPart(r *pack.Reader, kind string, most int) part {
	switch kind {
	case "flag":
		return part{kind: kind, on: r.Flag()}
	case "text":
		return part{kind: kind, s: r.Text(most)}
	case "count":
		return part{kind: kind, n: r.Count(most)}
	}
	return part{kind: kind, n: r.Num()}
}

// P2.2
func TestWhatWasWrittenIsRead(t *testing.T) {
	random := rand.New(rand.NewSource(2))
	for range 2000 {
		l := make([]part, random.Intn(12))
		for i := range l {
			l[i] = randomPart(random)
		}
		b, e := write(l).Bytes()
		if e != api.OK {
			t.Fatalf("Bytes() of %v: %d", l, e)
		}
		r := pack.Read(b)
		for _, p := range l {
			if r.End() != api.ErrForm {
				t.Fatalf("End() is OK ahead of %v", p)
			}
			if got := readPart(r, p.kind, max(p.n, len(p.s))); got != p {
				t.Fatalf("read %v, was written %v", got, p)
			}
		}
		if r.End() != api.OK {
			t.Fatalf("End() behind %v is not OK", l)
		}
		cutAndLonger(t, l, b)
	}
}

// cutAndLonger reads the parts of their bytes without the last one, and with one more.
func cutAndLonger(t *testing.T, l []part, b []byte) {
	t.Helper()
	if len(b) > 0 {
		r := pack.Read(b[:len(b)-1])
		for i, p := range l {
			got := readPart(r, p.kind, math.MaxInt)
			if i < len(l)-1 && got != p || i == len(l)-1 && got != (part{kind: p.kind}) {
				t.Fatalf("read %v without the last byte, was written %v", got, p)
			}
		}
		if r.End() != api.ErrForm {
			t.Fatalf("End() without the last byte of %s is OK", short(b))
		}
	}
	r := pack.Read(join(b, []byte{0}))
	for _, p := range l {
		if got := readPart(r, p.kind, math.MaxInt); got != p {
			t.Fatalf("read %v with a byte behind, was written %v", got, p)
		}
	}
	if r.End() != api.ErrForm {
		t.Fatalf("End() with a byte behind %s is OK", short(b))
	}
}

// wholeOnly reads the bytes as parts of these kinds; if there was no fault, the parts must be written as these bytes.
func wholeOnly(t *testing.T, b []byte, kinds []string, most int) bool {
	t.Helper()
	r := pack.Read(b)
	var l []part
	for _, kind := range kinds {
		p := readPart(r, kind, most)
		if kind != "num" && (p.n > most || len(p.s) > most) || p.n < 0 || p.n > greatest {
			t.Fatalf("read %v, at most %d", p, most)
		}
		l = append(l, p)
	}
	if r.End() != api.OK {
		return false
	}
	if got, e := write(l).Bytes(); e != api.OK || !bytes.Equal(got, b) {
		t.Fatalf("%v are read as %v, which are written as %v", b, l, got)
	}
	return true
}

// P2.3
func TestWhatIsReadIsWrittenSo(t *testing.T) {
	var shapes [][]string
	all := []string{"num", "flag", "text", "count"}
	for _, x := range all {
		shapes = append(shapes, []string{x})
		for _, y := range all {
			shapes = append(shapes, []string{x, y}, []string{x, y, "num"}, []string{x, y, "text"})
		}
	}
	few := []byte{0, 1, 2, 3, 127, 128, 129, 130, 255}
	whole := 0
	try := func(b ...byte) {
		for _, kinds := range shapes {
			if wholeOnly(t, b, kinds, 2) {
				whole++
			}
		}
	}
	for x := range 256 {
		try(byte(x))
		for y := range 256 {
			try(byte(x), byte(y))
		}
	}
	for _, x := range few {
		for _, y := range few {
			for _, z := range few {
				try(x, y, z)
				for _, last := range few {
					try(x, y, z, last)
				}
			}
		}
	}
	if whole < 40000 {
		t.Errorf("only %d were read without a fault", whole)
	}
}

// P2.3
func TestWhatIsReadOfLongNumbersIsWrittenSo(t *testing.T) {
	random := rand.New(rand.NewSource(3))
	whole := 0
	for range 200000 {
		b := make([]byte, 1+random.Intn(11))
		for i := range b {
			b[i] = byte(128 + random.Intn(128))
			if random.Intn(4) == 0 {
				b[i] = 128
			}
		}
		b[len(b)-1] = byte(random.Intn(20))
		if wholeOnly(t, b, []string{"num"}, 0) {
			whole++
		}
	}
	if whole < 50000 {
		t.Errorf("only %d were read without a fault", whole)
	}
}

// R3: what Bytes answers is nobody else's.
func TestBytesAreNewMemory(t *testing.T) {
	w := &pack.Writer{}
	w.Text("abc")
	first, _ := w.Bytes()
	second, _ := w.Bytes()
	_ = append(first, 9, 9, 9, 9)
	_ = append(second, 8, 8, 8, 8)
	w.Num(5)
	third, _ := w.Bytes()
	if string(first) != "\x03abc" || string(second) != "\x03abc" {
		t.Error("an answer has changed")
	}
	for _, b := range [][]byte{first, second, third} {
		for i := range b[:cap(b)] {
			b[:cap(b)][i] = 'x'
		}
	}
	w.Num(6)
	wrote(t, w, []byte("\x03abc\x05\x06"))
	if string(first) != "xxxx" || string(third) != "xxxxx" {
		t.Error("an answer has changed")
	}
}

// R3: what Read is handed is neither changed nor kept, nor is its spare room.
func TestBytesThatAreReadAreOnlyRead(t *testing.T) {
	const text = "\xac\x02\x01\x02ab\x05\x06\x07"
	room := []byte(text)
	r := pack.Read(room[:7])
	if r.Num() != 300 || !r.Flag() {
		t.Error("what was handed in is not read")
	}
	if string(room) != text {
		t.Error("what was handed in has changed")
	}
	for i := range room {
		room[i] = 0
	}
	if r.Text(2) != "ab" || r.Num() != 5 || r.End() != api.OK {
		t.Error("what was handed in is kept")
	}
	if string(room) != strings.Repeat("\x00", len(text)) {
		t.Error("what was handed in has changed")
	}
}

// R6: what lies behind the length is not read.
func TestSpareRoomIsNotRead(t *testing.T) {
	room := []byte("\x02ab\x81\x01")
	for n := range 3 {
		r := pack.Read(room[:n])
		if r.Text(2) != "" {
			t.Errorf("a text was read beyond %d bytes", n)
		}
		isFaulty(t, r)
	}
	r := pack.Read(room[3:4])
	if r.Num() != 0 {
		t.Error("a number was read beyond its bytes")
	}
	isFaulty(t, r)
}

// R8: no two writers, and no two readers, know of each other.
func TestWritersAndReadersStandAlone(t *testing.T) {
	b := []byte{172, 2, 1, 2, 97, 98}
	spoilt, other := &pack.Writer{}, &pack.Writer{}
	broken, good := pack.Read([]byte{128, 0}), pack.Read(b)
	third := pack.Read(b)
	other.Num(300)
	spoilt.Num(-1)
	other.Flag(true)
	broken.Num()
	if good.Num() != 300 || !good.Flag() {
		t.Error("a reader was spoilt by another")
	}
	if third.Num() != 300 {
		t.Error("a reader was moved on by another")
	}
	other.Text("ab")
	wrote(t, other, b)
	isSpoilt(t, spoilt)
	wrote(t, &pack.Writer{}, nil)
	if good.Text(2) != "ab" || good.End() != api.OK || !third.Flag() || third.End() != api.ErrForm {
		t.Error("readers of the same bytes are not their own")
	}
	isFaulty(t, broken)
}

// P2.1: the examples of the chapter.
func TestExamples(t *testing.T) {
	w := &pack.Writer{}
	w.Num(300)
	w.Text("ab")
	wrote(t, w, []byte{172, 2, 2, 97, 98})
	r := pack.Read([]byte{128, 0})
	if r.Num() != 0 || r.End() != api.ErrForm {
		t.Error("128 0")
	}
	r = pack.Read([]byte{5})
	if r.Num() != 5 || r.End() != api.OK || r.Num() != 0 || r.End() != api.ErrForm {
		t.Error("5")
	}
}
