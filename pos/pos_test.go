package pos_test

import (
	"math"
	"slices"
	"testing"

	"meridian/api"
	"meridian/pos"
)

// The exact signatures: another one would not build.
var (
	_ func([]api.Epoch) bool                   = pos.Right
	_ func([]api.Epoch, api.Pos) bool          = pos.On
	_ func([]api.Epoch, int) api.Pos           = pos.At
	_ func([]api.Epoch, api.Pos) api.Pos       = pos.Base
	_ func([]api.Epoch, api.Pos, api.Pos) bool = pos.Covers
	_ func([]api.Epoch, []api.Epoch) bool      = pos.Extends
	_ func([]api.Epoch, api.Pos) (int, bool)   = pos.Cut
)

// P4.1: the chapter's examples.
func TestExamples(t *testing.T) {
	table := []api.Epoch{{Master: 1}, {Master: 2, Cut: 5}, {Master: 1, Cut: 3}}
	for p, on := range map[api.Pos]bool{at(1, 3): true, at(3, 4): true, at(1, 4): false, at(2, 6): false} {
		if pos.On(table, p) != on {
			t.Errorf("On of %v isn't %v", p, on)
		}
	}
	if pos.At(table, 3) != at(1, 3) || pos.At(table, 4) != at(3, 4) {
		t.Errorf("At 3 is %v, At 4 is %v", pos.At(table, 3), pos.At(table, 4))
	}
	if pos.Base(table, at(2, 6)) != at(1, 3) {
		t.Errorf("Base of (2, 6) is %v", pos.Base(table, at(2, 6)))
	}
	for p, want := range map[api.Pos]int{at(1, 4): 3, at(1, 6): 2} {
		if n, forced := pos.Cut(table, p); n != want || forced {
			t.Errorf("Cut of %v is %d, %v", p, n, forced)
		}
	}
}

// P4.1
func TestRight(t *testing.T) {
	for _, table := range rightTables() {
		if !pos.Right(table) {
			t.Errorf("%s isn't right", short(table))
		}
	}
	for _, n := range []int{1, 2, 63, 64} {
		if !pos.Right(many(n, 3)) {
			t.Errorf("a table of %d epochs isn't right", n)
		}
	}
	for _, e := range []api.Epoch{{Master: 1}, {Master: 4}, {Master: 1, Cut: 512}, {Master: 4, Cut: 512, Forced: true}, {Master: 2, Cut: 1}} {
		if !pos.Right([]api.Epoch{{Master: 1}, e}) {
			t.Errorf("%v as a second epoch isn't right", e)
		}
	}
	for master := 1; master <= 4; master++ {
		if !pos.Right([]api.Epoch{{Master: master}}) {
			t.Errorf("the first master %d isn't right", master)
		}
	}
	for what, table := range wrongTables() {
		if pos.Right(table) {
			t.Errorf("%s: right", what)
		}
	}
}

// P4.1: of a table that isn't right, all is false, zero, 0.
func TestTablesThatAreNotRight(t *testing.T) {
	for what, table := range wrongTables() {
		for _, p := range []api.Pos{{}, at(1, 1), at(1, 3), at(2, 6), at(4, 8), at(1, 512), at(0, 1), at(-1, -1)} {
			if pos.On(table, p) || pos.Base(table, p) != (api.Pos{}) {
				t.Errorf("%s: %v: On is %v, Base is %v", what, p, pos.On(table, p), pos.Base(table, p))
			}
			if n, forced := pos.Cut(table, p); n != 0 || forced {
				t.Errorf("%s: Cut of %v is %d, %v", what, p, n, forced)
			}
			if pos.Covers(table, p, p) || pos.Covers(table, p, api.Pos{}) {
				t.Errorf("%s: %v covers", what, p)
			}
		}
		for _, index := range indexes(nil) {
			if pos.At(table, index) != (api.Pos{}) {
				t.Errorf("%s: At %d is %v", what, index, pos.At(table, index))
			}
		}
		if pos.Extends(table, table) || pos.Extends(table, cuts(0)) || pos.Extends(cuts(0), table) || pos.Extends(example(), table) {
			t.Errorf("%s: Extends", what)
		}
	}
}

// P4.1: one table, by hand: the zero position, an epoch of 0, of the last and one more; an index at a Cut, one above it,
// at MaxIndex and one more.
func TestPositionsAtTheEdges(t *testing.T) {
	table := []api.Epoch{{Master: 1}, {Master: 2, Cut: 5}, {Master: 3, Cut: 3, Forced: true}, {Master: 4, Cut: 8}}
	for _, c := range []struct {
		p      api.Pos
		on     bool
		base   api.Pos
		cut    int
		forced bool
	}{
		{api.Pos{}, true, api.Pos{}, 0, false},
		{at(0, 1), false, api.Pos{}, 0, false},
		{at(0, -1), false, api.Pos{}, 0, false},
		{at(1, 0), false, api.Pos{}, 0, false},
		{at(1, 1), true, at(1, 1), 0, false},
		{at(1, 3), true, at(1, 3), 0, false},
		{at(1, 4), false, at(1, 3), 3, true},
		{at(1, 5), false, at(1, 3), 3, true},
		{at(1, 6), false, at(1, 3), 2, false},
		{at(1, 512), false, at(1, 3), 2, false},
		{at(1, 513), false, api.Pos{}, 0, false},
		{at(2, 3), false, api.Pos{}, 0, false},
		{at(2, 5), false, api.Pos{}, 0, false},
		{at(2, 6), false, at(1, 3), 3, true},
		{at(2, 512), false, at(1, 3), 3, true},
		{at(2, 513), false, api.Pos{}, 0, false},
		{at(3, 3), false, api.Pos{}, 0, false},
		{at(3, 4), true, at(3, 4), 0, false},
		{at(3, 8), true, at(3, 8), 0, false},
		{at(3, 9), false, at(3, 8), 4, false},
		{at(4, 8), false, api.Pos{}, 0, false},
		{at(4, 9), true, at(4, 9), 0, false},
		{at(4, 512), true, at(4, 512), 0, false},
		{at(4, 513), false, api.Pos{}, 0, false},
		{at(5, 9), false, api.Pos{}, 0, false},
		{at(5, 512), false, api.Pos{}, 0, false},
		{at(-1, 9), false, api.Pos{}, 0, false},
		{at(4, math.MaxInt), false, api.Pos{}, 0, false},
		{at(1, math.MinInt), false, api.Pos{}, 0, false},
		{at(math.MaxInt, 9), false, api.Pos{}, 0, false},
		{at(math.MinInt, 9), false, api.Pos{}, 0, false},
	} {
		n, forced := pos.Cut(table, c.p)
		if pos.On(table, c.p) != c.on || pos.Base(table, c.p) != c.base || n != c.cut || forced != c.forced {
			t.Errorf("%v: On %v, Base %v, Cut %d %v; want %v", c.p, pos.On(table, c.p), pos.Base(table, c.p), n, forced, c)
		}
	}
}

// P4.1: Base, where a position was cut off more than once, and where nothing of its way is left.
func TestBaseOfWhatWasCutOffOften(t *testing.T) {
	for _, c := range []struct {
		table   []api.Epoch
		p, want api.Pos
		cut     int
	}{
		{cuts(0, 9, 6, 4), at(1, 12), at(1, 4), 2},
		{cuts(0, 9, 6, 4), at(1, 9), at(1, 4), 3},
		{cuts(0, 9, 6, 4), at(2, 10), at(1, 4), 3},
		{cuts(0, 4, 6, 9), at(1, 12), at(1, 4), 2},
		{cuts(0, 4, 6, 9), at(2, 12), at(2, 6), 3},
		{cuts(0, 4, 6, 5), at(2, 12), at(2, 5), 3},
		{cuts(0, 4, 6, 5), at(3, 7), at(2, 5), 4},
		{cuts(0, 4, 6, 3), at(3, 7), at(1, 3), 4},
		{cuts(0, 9, 0, 4), at(1, 12), api.Pos{}, 2},
		{cuts(0, 9, 0, 4), at(2, 10), api.Pos{}, 3},
		{cuts(0, 9, 0, 4), at(3, 5), at(3, 4), 4},
		{cuts(0, 0), at(1, 1), api.Pos{}, 2},
		{many(64, 0), at(1, 512), api.Pos{}, 2},
		{many(64, 511), at(1, 512), at(1, 511), 2},
		{many(64, 511), at(63, 512), at(1, 511), 64},
	} {
		if n, _ := pos.Cut(c.table, c.p); pos.Base(c.table, c.p) != c.want || n != c.cut || pos.On(c.table, c.p) {
			t.Errorf("%s: Base of %v is %v, Cut is %d; want %v, %d", short(c.table), c.p, pos.Base(c.table, c.p), n, c.want, c.cut)
		}
	}
}

// P4.1: whatever the table and the numbers, the answers are those of the logs themselves.
func TestPlacesAreAsTheLogsHaveThem(t *testing.T) {
	for _, table := range rightTables() {
		logs := grow(table)
		for _, p := range places(table) {
			if got, want := pos.On(table, p), logs.on(p); got != want {
				t.Fatalf("%s: On of %v is %v", short(table), p, got)
			}
			if got, want := pos.Base(table, p), logs.base(p); got != want {
				t.Fatalf("%s: Base of %v is %v, want %v", short(table), p, got, want)
			}
			want := logs.cut(p)
			wantForced := want != 0 && table[want-1].Forced
			if got, forced := pos.Cut(table, p); got != want || forced != wantForced {
				t.Fatalf("%s: Cut of %v is %d, %v; want %d, %v", short(table), p, got, forced, want, wantForced)
			}
		}
	}
}

// P4.1
func TestAtIsTheBranch(t *testing.T) {
	for _, table := range rightTables() {
		branch := grow(table).branch()
		for index := 1; index <= 512; index++ {
			if got := pos.At(table, index); got != branch[index] {
				t.Fatalf("%s: At %d is %v, want %v", short(table), index, got, branch[index])
			}
		}
		for _, index := range []int{0, 513, -1, -512, 1024, math.MinInt, math.MaxInt} {
			if got := pos.At(table, index); got != (api.Pos{}) {
				t.Fatalf("%s: At %d is %v", short(table), index, got)
			}
		}
	}
}

// P4.1
func TestCovers(t *testing.T) {
	table := example()
	for _, c := range []struct {
		p, floor api.Pos
		want     bool
	}{
		{api.Pos{}, api.Pos{}, true},
		{at(1, 1), api.Pos{}, true},
		{at(3, 512), api.Pos{}, true},
		{api.Pos{}, at(1, 1), false},
		{at(1, 2), at(1, 2), true},
		{at(1, 3), at(1, 2), true},
		{at(1, 2), at(1, 3), false},
		{at(3, 9), at(1, 3), true},
		{at(3, 9), at(3, 9), true},
		{at(3, 9), at(3, 10), false},
		{at(1, 3), at(3, 4), false},
		{at(1, 4), at(1, 3), false},
		{at(3, 9), at(1, 4), false},
		{at(2, 6), at(2, 6), false},
		{at(2, 6), api.Pos{}, false},
		{at(3, 9), at(0, -1), false},
		{at(3, 9), at(1, 0), false},
		{at(3, 513), at(1, 1), false},
		{at(4, 9), at(1, 1), false},
		{at(3, 9), at(3, 3), false},
	} {
		if got := pos.Covers(table, c.p, c.floor); got != c.want {
			t.Errorf("Covers of %v and the floor %v is %v", c.p, c.floor, got)
		}
	}
}

// P4.1
func TestCoversAsTheLogsHaveIt(t *testing.T) {
	for _, table := range append(smallTables(), example(), cuts(0, 512, 511), cuts(0, 200, 100, 300, 50, 400, 50)) {
		logs, list := grow(table), places(table)
		for i, p := range list {
			for j := i % 7; j < len(list); j += 7 {
				floor := list[j]
				want := logs.on(p) && logs.on(floor) && floor.Index <= p.Index
				if got := pos.Covers(table, p, floor); got != want {
					t.Fatalf("%s: Covers of %v and the floor %v is %v", short(table), p, floor, got)
				}
			}
		}
	}
}

// P4.1: a table extends itself and its beginnings, and no beginning extends what goes on.
func TestExtendsItsBeginnings(t *testing.T) {
	for _, table := range rightTables() {
		for n := range len(table) + 1 {
			beginning := slices.Clone(table[:n])
			if got := pos.Extends(beginning, table); got != (n > 0) {
				t.Fatalf("%s: Extends of its first %d is %v", short(table), n, got)
			}
			if got := pos.Extends(table, beginning); got != (n == len(table)) {
				t.Fatalf("the first %d of %s: Extends is %v", n, short(table), got)
			}
		}
	}
}

// P4.1: tables that differ in one epoch, in one thing alone.
func TestExtendsNothingElse(t *testing.T) {
	table := cuts(0, 5, 3, 9)
	for place := range table {
		master, cut, forced := slices.Clone(table), slices.Clone(table), slices.Clone(table)
		master[place].Master = table[place].Master%api.MaxRegions + 1
		cut[place].Cut++
		forced[place].Forced = !forced[place].Forced
		for _, other := range [][]api.Epoch{master, cut, forced} {
			if pos.Extends(table, other) || pos.Extends(other, table) {
				t.Errorf("%v and %v: Extends", table, other)
			}
			if got := pos.Extends(table[:place], other); got != (place > 0 && pos.Right(other)) {
				t.Errorf("the first %d and %v: Extends is %v", place, other, got)
			}
			if pos.Extends(table[:place+1], other) || pos.Extends(other[:place+1], table) {
				t.Errorf("%v and %v, cut at %d: Extends", table, other, place+1)
			}
		}
	}
	if pos.Extends(many(64, 3), many(65, 3)) || !pos.Extends(many(63, 3), many(64, 3)) {
		t.Error("Extends at the limit")
	}
}

// P4.2
func TestOneOfEachIndex(t *testing.T) {
	for _, table := range rightTables() {
		epoch := 0
		for index := 1; index <= 512; index++ {
			on := 0
			for n := 1; n <= len(table); n++ {
				if pos.On(table, at(n, index)) {
					on++
				}
			}
			p := pos.At(table, index)
			if on != 1 || !pos.On(table, p) || p.Index != index {
				t.Fatalf("%s: %d are on the branch at %d, At is %v", short(table), on, index, p)
			}
			if p.Epoch < epoch {
				t.Fatalf("%s: epochs fall at %v", short(table), p)
			}
			epoch = p.Epoch
		}
	}
}

// P4.3
func TestWhatIsCutOffStaysCutOff(t *testing.T) {
	for _, table := range rightTables() {
		for _, p := range places(table) {
			if !pos.On(table, p) {
				continue
			}
			for n := max(1, p.Epoch); n <= len(table); n++ {
				if !pos.On(table[:n], p) {
					t.Fatalf("%s: %v is on the branch, but wasn't with %d epochs", short(table), p, n)
				}
			}
		}
	}
}

// P4.3: once a position has been cut off, the epochs that come behind don't turn what Cut tells, nor lift its Base.
func TestCutIsToldOnce(t *testing.T) {
	for _, table := range rightTables() {
		for _, p := range places(table) {
			was, wasForced, base := 0, false, api.MaxIndex
			for n := max(1, p.Epoch); n <= len(table); n++ {
				cut, forced := pos.Cut(table[:n], p)
				if was != 0 && (cut != was || forced != wasForced) {
					t.Fatalf("%s: %v was cut off by %d %v, and by %d %v with %d epochs", short(table), p, was, wasForced, cut, forced, n)
				}
				below := pos.Base(table[:n], p).Index
				if below > base {
					t.Fatalf("%s: Base of %v rises to %d with %d epochs", short(table), p, below, n)
				}
				was, wasForced, base = cut, forced, below
			}
		}
	}
}

// P4.4
func TestBaseIsWhereTheWayLeaves(t *testing.T) {
	for _, table := range rightTables() {
		logs := grow(table)
		for _, p := range places(table) {
			base := pos.Base(table, p)
			if !pos.On(table, base) {
				t.Fatalf("%s: Base of %v is %v, which isn't on the branch", short(table), p, base)
			}
			if !logs.has(p) {
				continue
			}
			if base.Index > p.Index || base.Epoch > p.Epoch || pos.Base(table, base) != base {
				t.Fatalf("%s: Base of %v is %v, whose Base is %v", short(table), p, base, pos.Base(table, base))
			}
			if pos.On(table, p) != (base == p) {
				t.Fatalf("%s: Base of %v is %v, and On is %v", short(table), p, base, pos.On(table, p))
			}
		}
	}
}

// P4.4: what is on the branch is covered by p's Base just where it is of p's own way; else it lies above p, or beside it.
func TestBaseCoversWhatTheWayShares(t *testing.T) {
	for _, table := range append(smallTables(), example(), cuts(0, 512, 511), cuts(0, 200, 100, 300, 50, 400, 50)) {
		logs := grow(table)
		branch := logs.branch()
		for _, p := range places(table) {
			if !logs.has(p) {
				continue
			}
			base, way := pos.Base(table, p), logs[p.Epoch]
			for index, q := range branch {
				own := index <= p.Index && way[index] == q
				if pos.Covers(table, base, q) != own {
					t.Fatalf("%s: Base of %v is %v: %v, of its own way: %v", short(table), p, base, q, own)
				}
			}
		}
	}
}

// R3, R6: tables are only read, and what lies behind their length isn't.
func TestTablesAreOnlyRead(t *testing.T) {
	room := append(cuts(0, 5), api.Epoch{Master: 3, Cut: 2, Forced: true}, api.Epoch{Master: 9, Cut: -1})
	was := slices.Clone(room)
	table := room[:2]
	ask := func() {
		t.Helper()
		cut, forced := pos.Cut(table, at(1, 6))
		if !pos.Right(table) || !pos.On(table, at(1, 5)) || pos.On(table, at(3, 3)) || pos.At(table, 5) != at(1, 5) || cut != 2 || forced {
			t.Error("epochs behind the length count")
		}
		if pos.Base(table, at(1, 6)) != at(1, 5) || !pos.Covers(table, at(2, 6), at(1, 5)) {
			t.Error("epochs behind the length count")
		}
		if !pos.Extends(table, room[:3]) || pos.Extends(room[:3], table) || pos.Right(room[:0]) {
			t.Error("Extends or Right goes by what lies behind the length")
		}
	}
	ask()
	ask()
	if !slices.Equal(room, was) {
		t.Errorf("the table is %v now", room)
	}
}

// R8: the same answers whatever was asked between, and of another list with the same epochs.
func TestNothingIsKept(t *testing.T) {
	for _, table := range smallTables() {
		other := slices.Clone(table)
		for _, p := range places(table) {
			on, base, index := pos.On(table, p), pos.Base(table, p), pos.At(table, p.Index)
			pos.Cut(example(), at(2, 6))
			pos.Base(many(64, 1), at(1, 512))
			if pos.On(other, p) != on || pos.Base(other, p) != base || pos.At(other, p.Index) != index {
				t.Fatalf("%v: another answer for %v the second time", table, p)
			}
		}
	}
}
