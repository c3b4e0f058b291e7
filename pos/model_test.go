package pos_test

import (
	"fmt"
	"math"
	"math/rand"
	"slices"

	"meridian/api"
)

// log is what stands at each index of a branch, the place 0 aside.
type log [api.MaxIndex + 1]api.Pos

// tree is the branch of each epoch of a table, as the chapter tells how it comes about: an epoch keeps the first Cut
// entries of the branch ahead of it, and writes all others anew. It works by the logs themselves, and so shares nothing
// with the program.
type tree []log

func grow(t []api.Epoch) tree {
	logs := make(tree, len(t)+1)
	for n := 1; n <= len(t); n++ {
		logs[n] = logs[n-1]
		for i := t[n-1].Cut + 1; i <= api.MaxIndex; i++ {
			logs[n][i] = api.Pos{Epoch: n, Index: i}
		}
	}
	return logs
}

func (l tree) branch() log { return l[len(l)-1] }

// has tells whether p was ever written.
func (l tree) has(p api.Pos) bool {
	if p == (api.Pos{}) {
		return true
	}
	return p.Epoch > 0 && p.Epoch < len(l) && p.Index > 0 && p.Index <= api.MaxIndex && l[p.Epoch][p.Index] == p
}

func (l tree) on(p api.Pos) bool { return l.has(p) && l.branch()[p.Index] == p }

// base is the last entry of p's way that the branch has too, all those ahead of it as well.
func (l tree) base(p api.Pos) api.Pos {
	if !l.has(p) {
		return api.Pos{}
	}
	way, branch, last := l[p.Epoch], l.branch(), 0
	for last < p.Index && way[last+1] == branch[last+1] {
		last++
	}
	return branch[last]
}

// cut is the first epoch that has something else where p stood.
func (l tree) cut(p api.Pos) int {
	if !l.has(p) {
		return 0
	}
	for n := p.Epoch; n < len(l); n++ {
		if l[n][p.Index] != p {
			return n
		}
	}
	return 0
}

func at(epoch, index int) api.Pos { return api.Pos{Epoch: epoch, Index: index} }

// example is the chapter's table.
func example() []api.Epoch { return cuts(0, 5, 3) }

// cuts is a right table with these Cuts: masters take turns, and each third epoch is forced.
func cuts(list ...int) []api.Epoch {
	var t []api.Epoch
	for i, c := range list {
		t = append(t, api.Epoch{Master: i%api.MaxRegions + 1, Cut: c, Forced: i%3 == 2})
	}
	return t
}

// many is a right table of n epochs, all but the first with the same Cut.
func many(n, cut int) []api.Epoch {
	list := make([]int, n)
	for i := 1; i < n; i++ {
		list[i] = cut
	}
	return cuts(list...)
}

// smallTables are all right tables of up to four epochs with Cuts up to 3: each way in which a few Cuts can lie.
func smallTables() [][]api.Epoch {
	tables := [][]api.Epoch{cuts(0)}
	for from := 0; from < len(tables); from++ {
		if len(tables[from]) == 4 {
			continue
		}
		for c := range 4 {
			e := api.Epoch{Master: c + 1, Cut: c, Forced: from%2 == 1}
			tables = append(tables, append(slices.Clone(tables[from]), e))
		}
	}
	return tables
}

// greatTables are those at the limits, and some by chance, the same ones at each run.
func greatTables() [][]api.Epoch {
	rising, falling := make([]int, api.MaxEpochs), make([]int, api.MaxEpochs)
	for i := 1; i < api.MaxEpochs; i++ {
		rising[i], falling[i] = 8*i, api.MaxIndex-8*i
	}
	tables := [][]api.Epoch{
		example(), cuts(0, 511), cuts(0, 512), cuts(0, 512, 511), cuts(0, 511, 512), cuts(0, 512, 512), cuts(0, 512, 0),
		cuts(0, 300, 200, 100), cuts(0, 100, 200, 300), cuts(0, 200, 100, 300, 50, 400, 50),
		cuts(rising...), cuts(falling...),
		many(api.MaxEpochs, 0), many(api.MaxEpochs, 1), many(api.MaxEpochs, 511), many(api.MaxEpochs, 512),
	}
	r := rand.New(rand.NewSource(1))
	for range 40 {
		list := make([]int, 1+r.Intn(api.MaxEpochs))
		most := []int{4, 20, api.MaxIndex}[r.Intn(3)]
		for i := 1; i < len(list); i++ {
			list[i] = r.Intn(most + 1)
		}
		t := cuts(list...)
		for i := 1; i < len(t); i++ {
			t[i].Forced = r.Intn(2) == 0
		}
		tables = append(tables, t)
	}
	return tables
}

func rightTables() [][]api.Epoch { return append(smallTables(), greatTables()...) }

// wrongTables are tables each of which is wrong in one thing alone.
func wrongTables() map[string][]api.Epoch {
	with := func(place int, e api.Epoch) []api.Epoch {
		t := cuts(0, 5, 3, 7)
		t[place] = e
		return t
	}
	wrong := map[string][]api.Epoch{
		"nil":                   nil,
		"no epochs":             {},
		"one too many":          many(api.MaxEpochs+1, 3),
		"many too many":         many(5000, 0),
		"a first Cut of 1":      with(0, api.Epoch{Master: 1, Cut: 1}),
		"a first Cut of 512":    with(0, api.Epoch{Master: 1, Cut: 512}),
		"a first Cut below 0":   with(0, api.Epoch{Master: 1, Cut: -1}),
		"a first one forced":    with(0, api.Epoch{Master: 1, Forced: true}),
		"one alone, with a Cut": {{Master: 1, Cut: 1}},
		"one alone, forced":     {{Master: 1, Forced: true}},
		"the zero epoch alone":  {{}},
		"without its beginning": cuts(0, 5, 3)[1:],
	}
	for place := range 4 {
		for _, master := range []int{0, -1, 5, math.MinInt, math.MaxInt} {
			wrong[fmt.Sprintf("a Master of %d at %d", master, place)] = with(place, api.Epoch{Master: master})
		}
		for _, cut := range []int{-1, 513, math.MinInt, math.MaxInt} {
			wrong[fmt.Sprintf("a Cut of %d at %d", cut, place)] = with(place, api.Epoch{Master: 1, Cut: cut})
		}
	}
	return wrong
}

// indexes are those at the edges of a table: of the numbers, of the limits, and of each Cut.
func indexes(t []api.Epoch) []int {
	list := []int{math.MinInt, -512, -2, 1, 0, 2, 510, 511, 512, 513, 514, math.MaxInt}
	for _, e := range t {
		list = append(list, e.Cut-1, e.Cut, e.Cut+1)
	}
	slices.Sort(list)
	return slices.Compact(list)
}

// places are all pairs of an edge's index and an epoch of the table, or one that isn't, among them what is no position.
func places(t []api.Epoch) []api.Pos {
	epochs := []int{math.MinInt, -1, 0, len(t) + 1, len(t) + 2, 65, math.MaxInt}
	for n := range t {
		epochs = append(epochs, n+1)
	}
	var list []api.Pos
	for _, n := range epochs {
		for _, i := range indexes(t) {
			list = append(list, at(n, i))
		}
	}
	return list
}

// short keeps what a failing test tells within bounds.
func short(t []api.Epoch) string {
	if len(t) > 8 {
		return fmt.Sprintf("%v.. (%d epochs)", t[:8], len(t))
	}
	return fmt.Sprint(t)
}
