package coher

import (
	"math"
	"slices"
	"testing"

	"cupola/api"
	"cupola/exec"
	"cupola/rel"
)

// write is a write, shortly.
func write(loc int, val int64) api.Event { return api.Event{Kind: api.Write, Loc: loc, Val: val} }

// of is an execution of some events alone.
func of(l ...api.Event) exec.Exec { return exec.Exec{Events: l} }

// writes is an execution of many[0] writes of the place 0, then many[1] of the place 1, and so on; their values are the
// events' places and 10.
func writes(many ...int) exec.Exec {
	var e exec.Exec
	for loc, n := range many {
		for range n {
			e.Events = append(e.Events, write(loc, int64(len(e.Events)+10)))
		}
	}
	return e
}

// kit is events of few places; some are of places that there are none of, and some look like writes but for their kind.
func kit() []api.Event {
	return []api.Event{
		write(0, 10), write(0, 11), write(1, 10), {Thread: 2, Kind: api.Write, Val: 12, Rel: true, Excl: true}, write(-1, 13),
		{Kind: api.Read}, {Thread: 1, Kind: api.Read, Loc: 1, Acq: true}, {Kind: api.Sy}, {Kind: api.St}, {Kind: 0}, {Kind: -2, Loc: 1},
		write(math.MaxInt, 14), write(math.MinInt, math.MinInt64),
	}
}

// someExecs are all of up to two events of the kit, and some of three.
func someExecs() []exec.Exec {
	l := []exec.Exec{of()}
	k := kit()
	for n, x := range k {
		l = append(l, of(x))
		for m, y := range k {
			l = append(l, of(x, y), of(x, y, k[(n*5+m*3)%4]), of(k[n%7], k[m%5], k[(n*n+m)%13]))
		}
	}
	return l
}

// orders4 are executions of four events, between them those of four writes of a place, of two and two, of three and one.
func orders4() []exec.Exec {
	return []exec.Exec{
		writes(4), writes(2, 2), writes(3, 1), of(write(1, 1), write(-1, 2), write(1, 3), write(-1, 4)),
		of(write(0, 1), api.Event{Kind: api.Read}, write(0, 1), write(0, 1)), of(write(0, 1), write(1, 1), write(2, 1), write(3, 1)),
		of(api.Event{}, api.Event{}, write(5, 1), write(5, 2)),
	}
}

// pairsOf are a relation's pairs, bit by bit, without any call of rel.
func pairsOf(r rel.Rel) map[[2]int]bool {
	l := map[[2]int]bool{}
	for i, bits := range r {
		for k := range r {
			if len(r) <= 32 && bits>>k&1 == 1 {
				l[[2]int{i, k}] = true
			}
		}
	}
	return l
}

// shuffles are all orders of 0 to n - 1, each put together by where its greatest number is put in.
func shuffles(n int) [][]int {
	l := [][]int{{}}
	for k := range n {
		var longer [][]int
		for _, s := range l {
			for at := range k + 1 {
				longer = append(longer, slices.Insert(slices.Clone(s), at, k))
			}
		}
		l = longer
	}
	return l
}

// told is P12.1 the other way round: of an order of all events what it makes of each place's writes, the lowest place's first,
// all of them in one list; and the relation of that.
func told(e exec.Exec, shuffle []int) ([]int, rel.Rel) {
	var l []int
	for _, k := range shuffle {
		if e.Events[k].Kind == 2 {
			l = append(l, k)
		}
	}
	slices.SortStableFunc(l, func(a, b int) int {
		if e.Events[a].Loc < e.Events[b].Loc {
			return -1
		}
		if e.Events[a].Loc > e.Events[b].Loc {
			return 1
		}
		return 0
	})
	r := make(rel.Rel, len(e.Events))
	for at, k := range l {
		for _, i := range l[:at] {
			if e.Events[i].Loc == e.Events[k].Loc {
				r[i] |= 1 << k
			}
		}
	}
	return l, r
}

// allTold are the lists of all orders of events, each once, in turn, and their relations.
func allTold(e exec.Exec) ([][]int, []rel.Rel) {
	var lists [][]int
	var rels []rel.Rel
	for _, s := range shuffles(len(e.Events)) {
		l, r := told(e, s)
		at, found := slices.BinarySearchFunc(lists, l, slices.Compare[[]int])
		if !found {
			lists, rels = slices.Insert(lists, at, l), slices.Insert(rels, at, r)
		}
	}
	return lists, rels
}

// alike tells whether lists of relations are the same ones, in turn, number by number.
func alike(a, b []rel.Rel) bool { return slices.EqualFunc(a, b, slices.Equal[rel.Rel]) }

// locs are some that there may be writes of, and some others.
func locs() []int { return []int{math.MinInt, -2, -1, 0, 1, 2, 3, 5, math.MaxInt} }

// TestWrites: P12.1; of all places, those that memory can't have, too.
func TestWrites(t *testing.T) {
	for _, e := range append(someExecs(), orders4()...) {
		for _, loc := range locs() {
			var want []int
			for k := len(e.Events) - 1; k >= 0; k-- {
				if e.Events[k].Kind == 2 && e.Events[k].Loc == loc {
					want = append([]int{k}, want...)
				}
			}
			if got := Writes(e, loc); !slices.Equal(got, want) {
				t.Fatalf("Writes(%v, %d) is %v, not %v", e.Events, loc, got, want)
			}
		}
	}
	if got := Writes(of(write(1, 0), api.Event{Kind: api.Read, Loc: 1}, write(0, 0), api.Event{Kind: api.Sy, Loc: 1}, write(1, 5), api.Event{Thread: 7, Kind: api.Write, Loc: 1}), 1); !slices.Equal(got, []int{0, 4, 5}) {
		t.Error("by hand:", got)
	}
	if got := Writes(writes(0, 100), 1); len(got) != 100 || got[99] != 99 {
		t.Error("of many:", got)
	}
}

// TestAll: P12.1; all orders of all events, and what they make of each place.
func TestAll(t *testing.T) {
	execs := append(someExecs(), orders4()...)
	execs = append(execs, writes(3, 2), writes(2, 1, 2), writes(1, 2, 3), writes(2, 2, 2), writes(6), writes(4, 0, 2))
	execs = append(execs, of(write(7, 1), write(-7, 1), write(0, 1), write(-7, 2), write(7, 2), write(0, 2)))
	ways := 0
	for _, e := range execs {
		_, want := allTold(e)
		ways += len(want)
		if got := All(e); !alike(got, want) {
			t.Fatalf("All(%v) is %v, not %v", e.Events, got, want)
		}
	}
	if ways < 1500 {
		t.Errorf("only %d ways", ways)
	}
}

// TestAllByHand: P12.1, and the chapter's example; the highest place's next comes first, wherever its writes stand.
func TestAllByHand(t *testing.T) {
	for k, c := range []struct {
		e    exec.Exec
		want []rel.Rel
	}{
		{writes(2), []rel.Rel{{2, 0}, {0, 1}}},
		{writes(2, 2), []rel.Rel{{2, 0, 8, 0}, {2, 0, 0, 4}, {0, 1, 8, 0}, {0, 1, 0, 4}}},
		{of(write(3, 0), write(3, 0), write(-3, 0), write(-3, 0)), []rel.Rel{{2, 0, 8, 0}, {0, 1, 8, 0}, {2, 0, 0, 4}, {0, 1, 0, 4}}},
		{of(write(1, 0), api.Event{Kind: api.Read}, write(0, 0), write(1, 0)), []rel.Rel{{8, 0, 0, 0}, {0, 0, 0, 1}}},
		{writes(3), []rel.Rel{{6, 4, 0}, {6, 0, 2}, {4, 5, 0}, {0, 5, 1}, {2, 0, 3}, {0, 1, 3}}},
		{of(), []rel.Rel{{}}},
		{of(api.Event{Kind: api.Read}, api.Event{Kind: api.Isb}, api.Event{Kind: 7}), []rel.Rel{{0, 0, 0}}},
		{of(write(0, 1), write(1, 1), write(2, 1)), []rel.Rel{{0, 0, 0}}},
	} {
		if got := All(c.e); !alike(got, c.want) {
			t.Errorf("%d: %v, not %v", k, got, c.want)
		}
	}
}

// TestTooManyWays: P12.1; 6 writes of one place, and 20000 ways, are the most (20736 are the least number beyond), also where
// the number of ways is beyond any type's end, and wherever the place of too many writes stands.
func TestTooManyWays(t *testing.T) {
	for k, c := range []struct {
		e    exec.Exec
		many int
	}{
		{writes(6), 720},
		{writes(7), 0},
		{writes(1, 6, 1), 720},
		{writes(1, 7, 1), 0},
		{writes(7, 2), 0},
		{writes(2, 7), 0},
		{writes(2, 2, 2, 7), 0},
		{writes(6, 4), 17280},
		{writes(4, 6, 1, 1), 17280},
		{writes(3, 3, 2, 2, 2, 2, 2, 2, 2, 2, 2), 18432},
		{writes(2, 2, 2, 2, 2, 2, 2, 2, 2, 3, 3), 18432},
		{writes(3, 3, 3, 3, 2, 2, 2, 2), 0},
		{writes(2, 2, 2, 2, 3, 3, 3, 3), 0},
		{writes(6, 4, 2), 0},
		{writes(6, 6), 0},
		{writes(2, 2, 2, 2, 2, 2, 2, 2, 2, 2, 2, 2, 2, 2), 16384},
		{writes(2, 2, 2, 2, 2, 2, 2, 2, 2, 2, 2, 2, 2, 2, 2), 0},
		{writes(6, 6, 6, 6, 6, 2), 0},
		{writes(slices.Repeat([]int{1}, 32)...), 1},
		{writes(append(slices.Repeat([]int{1}, 30), 2)...), 2},
		{writes(slices.Repeat([]int{2}, 16)...), 0},
		{writes(slices.Repeat([]int{2}, 64)...), 0},
		{writes(slices.Repeat([]int{6}, 40)...), 0},
		{writes(32), 0},
	} {
		got := All(c.e)
		if len(got) != c.many {
			t.Errorf("%d: %d ways, not %d", k, len(got), c.many)
		}
		for _, r := range got {
			if len(r) != len(c.e.Events) {
				t.Fatalf("%d: a relation of %d things", k, len(r))
			}
		}
	}
}

// TestMoreThanARelationIsOf: P12.1, P12.2, P12.3; of more than 32 events the relation of none is the only one, and it has no
// order of two writes, whatever bits there are.
func TestMoreThanARelationIsOf(t *testing.T) {
	apart, two := writes(slices.Repeat([]int{1}, 33)...), writes(append(slices.Repeat([]int{1}, 31), 2)...)
	if got := All(apart); len(got) != 1 || len(got[0]) != 0 {
		t.Error("each of its own place:", got)
	}
	if got := All(two); len(got) != 0 {
		t.Error("two of one place:", got)
	}
	bits := slices.Repeat(rel.Rel{math.MaxUint32}, 33)
	for k, co := range []rel.Rel{nil, rel.New(33), bits, make(rel.Rel, 40)} {
		if !Fits(apart, co) || Fits(two, co) || !Fits(of(), co) {
			t.Error(k, "of things that stand for none")
		}
		if Last(two, co, 31) != 31 || Last(two, co, 30) != 30 || Last(two, co, 32) != -1 || !slices.Equal(Mem(writes(2), co, []int64{3, 4}), []int64{10, 4}) {
			t.Error(k, "Last, Mem")
		}
	}
	if Fits(apart, rel.New(32)) || Fits(apart, rel.New(1)) || Fits(of(write(0, 0)), make(rel.Rel, 33)) {
		t.Error("of other many things")
	}
}

// relations tell all relations of n things.
func relations(n int, each func(r rel.Rel)) {
	for number := range 1 << (n * n) {
		r := make(rel.Rel, n)
		for i := range n {
			r[i] = uint32(number >> (i * n) & (1<<n - 1))
		}
		each(r)
	}
}

// TestFits: P12.2; of all relations those fit that some order of all events makes.
func TestFits(t *testing.T) {
	fit := 0
	for _, e := range append(someExecs(), orders4()...) {
		_, want := allTold(e)
		relations(len(e.Events), func(r rel.Rel) {
			fits := slices.ContainsFunc(want, func(w rel.Rel) bool { return slices.Equal(r, w) })
			if fits {
				fit++
			}
			if got := Fits(e, r); got != fits {
				t.Fatalf("Fits(%v, %v) is %t", e.Events, r, got)
			}
		})
	}
	if fit < 700 {
		t.Errorf("only %d fit", fit)
	}
}

// TestFitsOfMany: P12.2; there are no bounds. Any pair more or less, and any one turned, doesn't fit; bits that play no part may stand.
func TestFitsOfMany(t *testing.T) {
	for n := range 33 {
		for places := 1; places <= 4; places++ {
			var e exec.Exec
			var shuffle []int
			for k := range n {
				x := write(k*k%places-1, 0)
				if k%7 == 5 {
					x.Kind = api.Ld
				}
				e.Events = append(e.Events, x)
				shuffle = slices.Insert(shuffle, k*5%(k+1), k)
			}
			_, r := told(e, shuffle)
			if !Fits(e, r) {
				t.Fatalf("%v doesn't fit %v", r, e.Events)
			}
			noisy := slices.Clone(r)
			for i := range n {
				noisy[i] |= uint32(math.MaxUint32<<n) & math.MaxUint32
				for k := range n {
					changed := slices.Clone(r)
					changed[i] ^= 1 << k
					turned := slices.Clone(r)
					turned[i], turned[k] = turned[i]&^(1<<k), turned[k]&^(1<<i)
					turned[i] |= r[k] >> i & 1 << k
					turned[k] |= r[i] >> k & 1 << i
					// Next to each other means that nothing else of that place stands between: then the turned one is another order.
					between := false
					for j := range n {
						between = between || r[i]>>j&1 == 1 && r[j]>>k&1 == 1 || r[k]>>j&1 == 1 && r[j]>>i&1 == 1
					}
					if Fits(e, changed) || Fits(e, turned) == between {
						t.Fatalf("%v, %v: with %d and %d changed, or turned", e.Events, r, i, k)
					}
				}
			}
			if !Fits(e, noisy) || Fits(e, append(slices.Clone(r), 0)) || n > 0 && Fits(e, r[:n-1]) {
				t.Fatalf("%v, %v: bits that play no part, or a thing more or less", e.Events, r)
			}
		}
	}
}

// TestFitsByHand: P12.2; relations of too few and too many things, with themselves, both ways round, in a ring, not closed,
// of other events, of unlike places, and such that leave two writes without order.
func TestFitsByHand(t *testing.T) {
	e := of(write(0, 1), api.Event{Kind: api.Read, Val: 1}, write(0, 1), write(1, 1), write(0, 1))
	for k, c := range []struct {
		co   rel.Rel
		fits bool
	}{
		{rel.Rel{20, 0, 16, 0, 0}, true},
		{rel.Rel{0, 0, 1, 0, 5}, true},
		{rel.Rel{16, 0, 17, 0, 0}, true},
		{rel.Rel{20 | 1<<5, 1 << 31, 16, 1 << 30, 0}, true},
		{rel.Rel{4, 0, 16, 0, 0}, false},
		{rel.Rel{4, 0, 16, 0, 1}, false},
		{rel.Rel{20, 0, 17, 0, 0}, false},
		{rel.Rel{20, 0, 0, 0, 0}, false},
		{rel.Rel{21, 0, 16, 0, 0}, false},
		{rel.Rel{21, 0, 21, 0, 21}, false},
		{rel.Rel{22, 0, 16, 0, 0}, false},
		{rel.Rel{20, 1, 16, 0, 0}, false},
		{rel.Rel{20, 0, 16, 8, 0}, false},
		{rel.Rel{28, 0, 24, 0, 8}, false},
		{rel.Rel{20, 0, 16, 21, 0}, false},
		{rel.Rel{0, 0, 0, 0, 0}, false},
		{rel.Rel{20, 0, 16, 0}, false},
		{rel.Rel{20, 0, 16, 0, 0, 0}, false},
		{nil, false},
	} {
		if got := Fits(e, c.co); got != c.fits {
			t.Errorf("%d: %t", k, got)
		}
	}
	if !Fits(of(), nil) || !Fits(of(), rel.Rel{}) || Fits(of(), rel.Rel{0}) || Fits(of(write(0, 0)), nil) || !Fits(of(write(0, 0)), rel.Rel{2}) {
		t.Error("of no events, and of one")
	}
	if seven := writes(7); !Fits(seven, rel.Rel{126, 124, 120, 112, 96, 64, 0}) {
		t.Error("without bounds")
	}
}

// lastOf is P12.2 of Last: how many writes of the place each one stands ahead of, asked bit by bit.
func lastOf(e exec.Exec, co rel.Rel, loc int) int {
	pairs := pairsOf(co)
	for k, x := range e.Events {
		ahead := 0
		for i, y := range e.Events {
			if y.Kind == 2 && y.Loc == loc && pairs[[2]int{k, i}] {
				ahead++
			}
		}
		if x.Kind == 2 && x.Loc == loc && ahead == 0 {
			return k
		}
	}
	return -1
}

// memOf is P12.2 of Mem, on lastOf.
func memOf(e exec.Exec, co rel.Rel, init []int64) []int64 {
	var mem []int64
	for loc, v := range init {
		if w := lastOf(e, co, loc); w != -1 {
			v = e.Events[w].Val
		}
		mem = append(mem, v)
	}
	return mem
}

// TestLastAndMem: P12.2; of all relations of as many things as events, or less, those that don't fit, too.
func TestLastAndMem(t *testing.T) {
	inits := [][]int64{nil, {77}, {77, 78}, {77, 78, 79, 80}}
	kinds := map[int]int{}
	for n, e := range append(someExecs(), orders4()[:3]...) {
		init, round := inits[n%4], 0
		check := func(r rel.Rel) {
			round++
			// Of four things there are far more relations, so not all of them are asked of.
			if len(r) == 4 && round%7 != 0 {
				return
			}
			for _, loc := range []int{-1, 0, 1, math.MaxInt} {
				want := lastOf(e, r, loc)
				kinds[want]++
				if got := Last(e, r, loc); got != want {
					t.Fatalf("Last(%v, %v, %d) is %d, not %d", e.Events, r, loc, got, want)
				}
			}
			if got, want := Mem(e, r, init), memOf(e, r, init); !slices.Equal(got, want) {
				t.Fatalf("Mem(%v, %v, %v) is %v, not %v", e.Events, r, init, got, want)
			}
		}
		relations(len(e.Events), check)
		relations(n%3, check)
	}
	for k := -1; k < 4; k++ {
		if kinds[k] < 100 {
			t.Errorf("%d only %d times", k, kinds[k])
		}
	}
}

// TestLastAndMemByHand: P12.2; rings, a write ahead of itself, others than writes of that place between, relations of fewer
// and of more things, and bits that play no part.
func TestLastAndMemByHand(t *testing.T) {
	e := of(write(0, 5), api.Event{Kind: api.Read, Val: 6}, write(1, 7), write(0, 8), write(0, -9))
	for k, c := range []struct {
		co    rel.Rel
		last  int
		init  []int64
		after []int64
	}{
		{rel.Rel{24, 0, 0, 16, 0}, 4, []int64{1, 2, 3}, []int64{-9, 7, 3}},
		{rel.Rel{0, 0, 0, 1, 9}, 0, []int64{1}, []int64{5}},
		{rel.Rel{16, 0, 0, 17, 0}, 4, nil, nil},
		{rel.Rel{8, 0, 0, 0, 9}, 3, []int64{1, 2}, []int64{8, 7}},
		{rel.Rel{0, 0, 0, 0, 0}, 0, []int64{1, 2}, []int64{5, 7}},
		{rel.Rel{1, 0, 4, 0, 0}, 3, []int64{1, 2}, []int64{8, 2}},
		{rel.Rel{6, 31, 27, 1, 0}, 0, []int64{1, 2}, []int64{5, 7}},
		{rel.Rel{8, 0, 0, 16, 1}, -1, []int64{1, 2}, []int64{1, 7}},
		{rel.Rel{1, 0, 0, 8, 16}, -1, []int64{1, 2}, []int64{1, 7}},
		{rel.Rel{8, 0, 0, 16}, 3, []int64{1, 2}, []int64{8, 7}},
		{rel.Rel{25}, 3, []int64{1, 2}, []int64{8, 7}},
		{rel.Rel{24, 0, 0, 16, 0, 99, 99}, 4, []int64{1, 2}, []int64{-9, 7}},
		{rel.Rel{1 << 5, 0, 0, 1 << 6, 0}, 0, []int64{1, 2}, []int64{5, 7}},
		{nil, 0, []int64{1, 2}, []int64{5, 7}},
	} {
		if got := Last(e, c.co, 0); got != c.last {
			t.Errorf("%d: %d, not %d", k, got, c.last)
		}
		if got := Mem(e, c.co, c.init); !slices.Equal(got, c.after) {
			t.Errorf("%d: %v, not %v", k, got, c.after)
		}
	}
	far := of(write(-1, 5), write(math.MinInt, 6), write(math.MaxInt, 7), write(2, 8))
	if got := Mem(far, rel.New(4), []int64{1, 2}); !slices.Equal(got, []int64{1, 2}) {
		t.Error("of places that init hasn't:", got)
	}
	if Last(far, rel.New(4), -1) != 0 || Last(far, rel.New(4), math.MinInt) != 1 || Last(far, rel.New(4), math.MaxInt) != 2 || Last(far, rel.New(4), 1) != -1 || Last(of(), nil, 0) != -1 {
		t.Error("Last of such")
	}
}

// realExecs are executions of tests: two and three threads that write one place, two and three, plainly and exclusively.
func realExecs(t *testing.T) []exec.Exec {
	ldr := func(d, loc int) api.Ins { return api.Ins{Op: api.OpLdr, D: d, A: -1, Loc: loc} }
	str := func(b, loc int) api.Ins { return api.Ins{Op: api.OpStr, B: b, A: -1, Loc: loc} }
	one := api.Ins{Op: api.OpMov, D: 3, Imm: 1}
	exclusive := []api.Ins{one, {Op: api.OpLdxr, D: 1, A: -1}, {Op: api.OpStxr, D: 2, A: -1, B: 3}, str(2, 1)}
	var execs []exec.Exec
	for _, u := range []api.Test{
		{Init: []int64{0, 0}, Threads: [][]api.Ins{{one, str(3, 0), ldr(1, 1)}, {one, str(3, 1), str(1, 0)}}},
		{Init: []int64{0}, Threads: [][]api.Ins{{str(0, 0), str(1, 0)}, {one, str(3, 0), {Op: api.OpDmb}, str(0, 0)}, {ldr(1, 0), str(1, 0)}}},
		{Init: []int64{0, 1}, Threads: [][]api.Ins{exclusive, exclusive}},
		{Init: []int64{1, 0, 1}, Threads: [][]api.Ins{{ldr(1, 2), {Op: api.OpStr, A: 1, B: 1}}, {ldr(1, 0), {Op: api.OpCbz, A: 1, Imm: 1}, str(1, 1)}, {{Op: api.OpStlr, A: -1, B: 2, Loc: 1}}}},
	} {
		l, e := exec.All(u)
		if e != api.OK {
			t.Fatal(e)
		}
		execs = append(execs, l...)
	}
	return execs
}

// TestWhatFollows: P12.3; of what threads do, and of others: all fit, and are unlike, and are as many as the places' orders
// multiplied; each place at which there are writes has a last one, all other ones of it are ahead of that, and memory has
// its value.
func TestWhatFollows(t *testing.T) {
	ways, most := 0, 0
	execs := slices.Concat(realExecs(t), someExecs(), orders4(), []exec.Exec{writes(5, 2), writes(2, 2, 2, 2, 2, 2, 2), writes(3, 0, 4)})
	for _, e := range execs {
		all, many := All(e), 1
		for _, loc := range locs() {
			for n := range Writes(e, loc) {
				many *= n + 1
			}
		}
		if wide := len(e.Events) == 14; wide {
			many = 128
		}
		if len(all) != many {
			t.Fatalf("%v: %d ways, not %d", e.Events, len(all), many)
		}
		ways, most = ways+many, max(most, many)
		for k, co := range all {
			if !Fits(e, co) || slices.ContainsFunc(all[:k], func(other rel.Rel) bool { return slices.Equal(other, co) }) {
				t.Fatalf("%v: %v doesn't fit, or was there", e.Events, co)
			}
			mem := Mem(e, co, []int64{70, 71, 72})
			for _, loc := range locs() {
				last := Last(e, co, loc)
				for _, w := range Writes(e, loc) {
					if last < 0 || w != last && !pairsOf(co)[[2]int{w, last}] || loc >= 0 && loc < 3 && mem[loc] != e.Events[last].Val {
						t.Fatalf("%v, %v: the last one of %d is %d, memory %v", e.Events, co, loc, last, mem)
					}
				}
				if len(Writes(e, loc)) == 0 && (last != -1 || loc >= 0 && loc < 3 && mem[loc] != int64(70+loc)) {
					t.Fatalf("%v, %v: the last one of %d is %d, memory %v", e.Events, co, loc, last, mem)
				}
			}
		}
	}
	if ways < 1000 || most < 144 {
		t.Errorf("only %d ways, and %d of one", ways, most)
	}
}

// TestNothingIsShared: no two relations or lists that are told share memory, nor do they with what is handed in, which stays
// as it is.
func TestNothingIsShared(t *testing.T) {
	events := []api.Event{write(0, 5), write(1, 6), write(0, 7), write(1, 8), {Kind: api.Read}}
	e := of(slices.Clone(events)...)
	_, want := allTold(e)
	first, second := All(e), All(e)
	for k := range first {
		if !slices.Equal(first[k], want[k]) {
			t.Fatalf("%d: %v, not %v", k, first[k], want[k])
		}
		for i := range first[k] {
			first[k][i] = 77
		}
		first[k] = append(first[k], 78)
	}
	if !alike(second, want) {
		t.Error("two calls share memory")
	}
	bare := All(of(api.Event{}, api.Event{}))
	bare[0][0] = 77
	if got := All(of(api.Event{}, api.Event{})); !alike(got, []rel.Rel{{0, 0}}) {
		t.Error("without writes:", got)
	}
	l := Writes(e, 0)
	l[0], l[1] = 77, 77
	init, co := []int64{1, 2, 3}, rel.Rel{4, 8 | 1<<9, 0, 0, 0}
	mem := Mem(e, co, init)
	mem[0], mem[1], mem[2] = 77, 77, 77
	if !slices.Equal(Writes(e, 0), []int{0, 2}) || !slices.Equal(Mem(e, co, init), []int64{7, 8, 3}) || !Fits(e, co) || Last(e, co, 1) != 3 {
		t.Error("two calls share memory")
	}
	if !slices.Equal(e.Events, events) || !slices.Equal(init, []int64{1, 2, 3}) || !slices.Equal(co, rel.Rel{4, 8 | 1<<9, 0, 0, 0}) {
		t.Error("changed:", e.Events, init, co)
	}
}
