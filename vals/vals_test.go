package vals

import (
	"math"
	"slices"
	"testing"

	"cupola/api"
	"cupola/flow"
	"cupola/ins"
	"cupola/regs"
	"cupola/test"
)

// mov, add and so on write instructions shortly; the place is Loc alone.
func mov(d int, imm int64) api.Ins { return api.Ins{Op: api.OpMov, D: d, Imm: imm} }
func add(d, a, b int) api.Ins      { return api.Ins{Op: api.OpAdd, D: d, A: a, B: b} }
func ldr(d, loc int) api.Ins       { return api.Ins{Op: api.OpLdr, D: d, A: -1, Loc: loc} }
func ldxr(d, loc int) api.Ins      { return api.Ins{Op: api.OpLdxr, D: d, A: -1, Loc: loc} }
func str(b, loc int) api.Ins       { return api.Ins{Op: api.OpStr, B: b, A: -1, Loc: loc} }
func stxr(d, b, loc int) api.Ins   { return api.Ins{Op: api.OpStxr, D: d, B: b, A: -1, Loc: loc} }
func cbz(a int, imm int64) api.Ins { return api.Ins{Op: api.OpCbz, A: a, Imm: imm} }
func isb() api.Ins                 { return api.Ins{Op: api.OpIsb} }

// guess is what one trace takes: the values by their places in the list of them.
type guess struct {
	at    []int
	lucks []bool
}

// run is flow.Run on the first few of a guess.
func (g guess) run(th []api.Ins, locs int, vals []int64, values, lucks int) flow.Trace {
	var l []int64
	for _, k := range g.at[:values] {
		l = append(l, vals[k])
	}
	return flow.Run(th, locs, l, g.lucks[:lucks])
}

// eachFull hands on all guesses for as many loads and exclusive stores as stand in the thread, come to or not.
func eachFull(th []api.Ins, vals []int64, do func(g guess)) {
	loads, exclusives := 0, 0
	for _, x := range th {
		if ins.Kind(x) == api.Read {
			loads++
		}
		if x.Op == api.OpStxr {
			exclusives++
		}
	}
	ways := 1 << exclusives
	for range loads {
		ways *= len(vals)
	}
	for n := range ways {
		g := guess{}
		for k := range exclusives {
			g.lucks = append(g.lucks, n>>k&1 == 1)
		}
		rest := n >> exclusives
		for range loads {
			g.at = append(g.at, rest%len(vals))
			rest /= len(vals)
		}
		do(g)
	}
}

// compareGuesses tells which of two guesses of Done traces is first: what both have in common is laid out step by step, and
// what flow.Run asks for next is held against each other.
func compareGuesses(th []api.Ins, locs int, vals []int64, a, b guess) int {
	for values, lucks := 0, 0; ; {
		switch a.run(th, locs, vals, values, lucks).More {
		case flow.Done:
			return 0
		case flow.Value:
			if c := a.at[values] - b.at[values]; c != 0 {
				return c
			}
			values++
		case flow.Luck:
			if a.lucks[lucks] != b.lucks[lucks] {
				if a.lucks[lucks] {
					return -1
				}
				return 1
			}
			lucks++
		}
	}
}

// expectedTraces is P9.1 of a thread of at most 4 loads: of all full guesses what each takes of them, each such guess once, in
// turn.
func expectedTraces(th []api.Ins, locs int, vals []int64) []flow.Trace {
	if len(vals) == 0 {
		if tr := flow.Run(th, locs, nil, nil); tr.More == flow.Done {
			return []flow.Trace{tr}
		}
		return nil
	}
	var l []guess
	eachFull(th, vals, func(g guess) {
		tr := g.run(th, locs, vals, len(g.at), len(g.lucks))
		l = append(l, guess{g.at[:tr.Vals], g.lucks[:tr.Lucks]})
	})
	compare := func(a, b guess) int { return compareGuesses(th, locs, vals, a, b) }
	slices.SortFunc(l, compare)
	l = slices.CompactFunc(l, func(a, b guess) bool { return compare(a, b) == 0 })
	var want []flow.Trace
	for _, g := range l {
		want = append(want, g.run(th, locs, vals, len(g.at), len(g.lucks)))
	}
	return want
}

// same tells whether two traces are; nil and empty lists are the same.
func same(a, b flow.Trace) bool {
	lists := slices.Equal(a.Events, b.Events) && slices.Equal(a.Pair, b.Pair) &&
		slices.Equal(a.Addr, b.Addr) && slices.Equal(a.Data, b.Data) && slices.Equal(a.Ctrl, b.Ctrl)
	return lists && a.Regs == b.Regs && a.Vals == b.Vals && a.Lucks == b.Lucks && a.More == b.More
}

func sameAll(a, b []flow.Trace) bool {
	return slices.EqualFunc(a, b, same)
}

// expectedOf is P9.2 of a test that may be: a full guess of a thread is always Done, so what is written on all of them is all
// that is written.
func expectedOf(t api.Test) ([]int64, api.Errno) {
	l := slices.Compact(slices.Sorted(slices.Values(t.Init)))
	stores := 0
	for _, th := range t.Threads {
		for _, x := range th {
			if ins.Kind(x) == api.Write {
				stores++
			}
		}
	}
	for ; stores > 0; stores-- {
		next := slices.Clone(l)
		for _, th := range t.Threads {
			eachFull(th, l, func(g guess) {
				for _, e := range g.run(th, len(t.Init), l, len(g.at), len(g.lucks)).Events {
					if e.Kind == api.Write && !slices.Contains(next, e.Val) {
						next = append(next, e.Val)
					}
				}
			})
		}
		if len(next) > 8 {
			return nil, api.ErrFull
		}
		slices.Sort(next)
		l = next
	}
	return l, api.OK
}

// kit is instructions of few registers and two places, so that short threads of them have much to do with each other.
func kit() []api.Ins {
	return []api.Ins{
		mov(0, 1), add(1, 1, 0), {Op: api.OpEor, D: 0, A: 1, B: 2}, ldr(1, 0), {Op: api.OpLdar, D: 0, A: 1}, ldxr(1, 0), ldxr(0, 1),
		stxr(2, 1, 0), stxr(0, 0, 1), str(1, 1), {Op: api.OpStlr, B: 2, A: 0}, {Op: api.OpDmb, Imm: 2}, cbz(1, 1), {Op: api.OpCbnz, A: 2, Imm: 2},
	}
}

// threadOf is the thread of n instructions of the kit that has this number; false, if a branch leads beyond its end.
func threadOf(number, n int) ([]api.Ins, bool) {
	l := kit()
	var th []api.Ins
	for k := range n {
		x := l[number%len(l)]
		number /= len(l)
		if (x.Op == api.OpCbz || x.Op == api.OpCbnz) && int(x.Imm) > n-1-k {
			return nil, false
		}
		th = append(th, x)
	}
	return th, true
}

// eachShort hands on all threads of up to n instructions of the kit that may be.
func eachShort(n int, do func(th []api.Ins)) {
	ways := 1
	for length := range n + 1 {
		for number := range ways {
			if th, ok := threadOf(number, length); ok {
				do(th)
			}
		}
		ways *= len(kit())
	}
}

// eachLong hands on some threads of n instructions of the kit, wide apart by their numbers, none of them twice.
func eachLong(many, n int, do func(th []api.Ins)) {
	all := 1
	for range n {
		all *= len(kit())
	}
	number := 0
	for range min(many, all) {
		number = (number + 618033989) % all // prime to 14, so that all numbers come ahead of the first one again
		if th, ok := threadOf(number, n); ok {
			do(th)
		}
	}
}

func loadsOf(th []api.Ins) int {
	n, _ := test.Count(api.Test{Threads: [][]api.Ins{th}})
	return n
}

func compareTraces(t *testing.T, th []api.Ins, locs int, vals []int64) {
	t.Helper()
	got := Traces(th, locs, vals)
	if loadsOf(th) > 4 {
		if len(got) != 0 {
			t.Fatalf("Traces(%v, %d, %v): %d traces of too many loads", th, locs, vals, len(got))
		}
		return
	}
	if want := expectedTraces(th, locs, vals); !sameAll(got, want) {
		t.Fatalf("Traces(%v, %d, %v) is\n%+v, not\n%+v", th, locs, vals, got, want)
	}
}

// TestShortThreads: P9.1, of all threads of up to three of the kit, on values that aren't rising, of which one stands twice.
func TestShortThreads(t *testing.T) {
	eachShort(3, func(th []api.Ins) {
		for _, vals := range [][]int64{nil, {1}, {2, 0}, {3, -1, 3}} {
			compareTraces(t, th, 2, vals)
		}
	})
}

// TestLongThreads: P9.1, of threads of four to eight.
func TestLongThreads(t *testing.T) {
	for n := 4; n <= 8; n++ {
		eachLong(1500, n, func(th []api.Ins) {
			for locs := 2; locs <= 3; locs++ {
				compareTraces(t, th, locs, []int64{1, 0})
			}
		})
	}
}

// registers is the numbers of all registers of each trace.
func registers(l []flow.Trace) [][4]int64 {
	var got [][4]int64
	for _, tr := range l {
		got = append(got, tr.Regs.V)
	}
	return got
}

// TestTurn: P9.1; the first unlike guess tells: the value that stands first, be it the greater one, or the luck that is true;
// a luck that is guessed ahead of a value weighs more, and one behind it less.
func TestTurn(t *testing.T) {
	for k, c := range []struct {
		th   []api.Ins
		vals []int64
		want [][4]int64
	}{
		{[]api.Ins{ldr(1, 0)}, []int64{9, -3, 4}, [][4]int64{{0, 9}, {0, -3}, {0, 4}}},
		{[]api.Ins{ldr(1, 0), ldr(2, 0)}, []int64{7, 2}, [][4]int64{{0, 7, 7}, {0, 7, 2}, {0, 2, 7}, {0, 2, 2}}},
		{[]api.Ins{ldr(2, 0), ldr(1, 0)}, []int64{7, 2}, [][4]int64{{0, 7, 7}, {0, 2, 7}, {0, 7, 2}, {0, 2, 2}}},
		{[]api.Ins{ldxr(1, 0), stxr(2, 1, 0)}, []int64{5}, [][4]int64{{0, 5, 0}, {0, 5, 1}}},
		{[]api.Ins{ldxr(1, 0), stxr(2, 1, 0), ldr(3, 0)}, []int64{5, 4}, [][4]int64{
			{0, 5, 0, 5}, {0, 5, 0, 4}, {0, 5, 1, 5}, {0, 5, 1, 4}, {0, 4, 0, 5}, {0, 4, 0, 4}, {0, 4, 1, 5}, {0, 4, 1, 4}}},
		{[]api.Ins{ldxr(1, 0), ldr(3, 0), stxr(2, 1, 0)}, []int64{5, 4}, [][4]int64{
			{0, 5, 0, 5}, {0, 5, 1, 5}, {0, 5, 0, 4}, {0, 5, 1, 4}, {0, 4, 0, 5}, {0, 4, 1, 5}, {0, 4, 0, 4}, {0, 4, 1, 4}}},
		{[]api.Ins{ldxr(1, 0), stxr(2, 1, 0), cbz(2, 1), ldr(3, 0)}, []int64{6, 8}, [][4]int64{
			{0, 6, 0, 0}, {0, 6, 1, 6}, {0, 6, 1, 8}, {0, 8, 0, 0}, {0, 8, 1, 6}, {0, 8, 1, 8}}},
		{[]api.Ins{ldr(1, 0), cbz(1, 1), ldr(2, 0)}, []int64{0, 3}, [][4]int64{{0, 0, 0}, {0, 3, 0}, {0, 3, 3}}},
		{[]api.Ins{ldxr(0, 0), stxr(1, 0, 0), ldxr(0, 0), stxr(2, 0, 0)}, []int64{0}, [][4]int64{{0, 0, 0}, {0, 0, 1}, {0, 1, 0}, {0, 1, 1}}},
	} {
		if got := registers(Traces(c.th, 1, c.vals)); !slices.Equal(got, c.want) {
			t.Errorf("%d: %v, not %v", k, got, c.want)
		}
	}
}

// TestNoMoreThanIsTaken: P9.1; each trace is Done, as flow.Run tells it, and what a store that fails by itself doesn't ask for
// isn't guessed.
func TestNoMoreThanIsTaken(t *testing.T) {
	for k, c := range []struct {
		th   []api.Ins
		many int
	}{
		{[]api.Ins{stxr(2, 1, 0)}, 1},
		{[]api.Ins{ldr(1, 0), stxr(2, 1, 0)}, 2},
		{[]api.Ins{ldxr(1, 1), stxr(2, 1, 0)}, 2},
		{[]api.Ins{ldxr(1, 0), stxr(2, 1, 0), stxr(2, 1, 0)}, 4},
		{[]api.Ins{ldxr(1, 0), cbz(0, 1), stxr(2, 1, 0)}, 2},
		{[]api.Ins{cbz(0, 1), ldr(1, 0), isb()}, 1},
		{[]api.Ins{cbz(0, 2), ldxr(1, 0), stxr(2, 1, 0), ldr(3, 0)}, 2},
		{[]api.Ins{isb(), mov(1, 4), str(1, 0)}, 1},
	} {
		got := Traces(c.th, 2, []int64{4, 6})
		if len(got) != c.many {
			t.Errorf("%d: %d traces", k, len(got))
		}
		for _, tr := range got {
			if tr.More != flow.Done {
				t.Errorf("%d: not Done: %+v", k, tr)
			}
		}
	}
}

// TestValuesThatStandTwice: P9.1; they are guessed twice.
func TestValuesThatStandTwice(t *testing.T) {
	th := []api.Ins{ldr(1, 0), ldr(2, 0)}
	want := [][4]int64{{0, 3, 3}, {0, 3, 8}, {0, 3, 3}, {0, 8, 3}, {0, 8, 8}, {0, 8, 3}, {0, 3, 3}, {0, 3, 8}, {0, 3, 3}}
	if got := registers(Traces(th, 1, []int64{3, 8, 3})); !slices.Equal(got, want) {
		t.Error(got)
	}
}

// TestNoValues: P9.1; the traces without loads are left: those whose loads are left out, too.
func TestNoValues(t *testing.T) {
	for k, c := range []struct {
		th   []api.Ins
		many int
	}{
		{[]api.Ins{mov(1, 4), str(1, 0), {Op: api.OpDmb}}, 1},
		{[]api.Ins{cbz(0, 1), ldr(1, 0)}, 1},
		{[]api.Ins{{Op: api.OpCbnz, Imm: 1}, ldr(1, 0)}, 0},
		{[]api.Ins{ldr(1, 0)}, 0},
		{[]api.Ins{str(1, 0), ldxr(1, 0), stxr(2, 1, 0)}, 0},
		{[]api.Ins{stxr(2, 1, 0)}, 1},
	} {
		for _, vals := range [][]int64{nil, {}} {
			if got := Traces(c.th, 1, vals); len(got) != c.many || !sameAll(got, expectedTraces(c.th, 1, vals)) {
				t.Errorf("%d: %+v", k, got)
			}
		}
	}
}

// TestManyLoads: P9.1; four loads may be, five not, of whatever kind, come to or not, in a thread that may be or not.
func TestManyLoads(t *testing.T) {
	four := []api.Ins{ldr(1, 0), {Op: api.OpLdar, D: 1, A: -1}, ldxr(1, 0), ldr(2, 0)}
	vals := []int64{0, 1, 2}
	if got := Traces(four, 1, vals); len(got) != 81 {
		t.Errorf("%d traces of four loads", len(got))
	}
	for _, x := range []api.Ins{ldr(3, 0), ldxr(3, 0), {Op: api.OpLdar, D: 3, A: -1}, {Op: api.OpLdr, D: 99}} {
		for k := range 5 {
			five := slices.Insert(slices.Clone(four), k, x)
			leftOut := append([]api.Ins{cbz(0, 5)}, five...)
			tooLong := append(slices.Repeat([]api.Ins{isb()}, 8), five...)
			for _, th := range [][]api.Ins{five, leftOut, tooLong} {
				for _, l := range [][]int64{nil, {1}, vals} {
					if got := Traces(th, 1, l); len(got) != 0 {
						t.Errorf("%v on %v: %d traces", th, l, len(got))
					}
				}
			}
		}
	}
	all := slices.Concat(four, []api.Ins{str(1, 0), stxr(1, 1, 0), str(1, 0), str(2, 0)})
	if got := Traces(all, 1, vals); len(got) != 162 {
		t.Errorf("%d traces of four loads and four stores", len(got))
	}
	leftOut := append([]api.Ins{cbz(0, 4)}, four...)
	if got := Traces(leftOut, 1, vals); len(got) != 1 {
		t.Errorf("%d traces of four loads that are left out", len(got))
	}
}

// TestManyLucks: P9.1; four exclusive stores that have their loads take four lucks.
func TestManyLucks(t *testing.T) {
	th := slices.Repeat([]api.Ins{ldxr(1, 0), stxr(2, 1, 0)}, 4)
	got := Traces(th, 1, []int64{3, 2})
	if len(got) != 256 || !sameAll(got, expectedTraces(th, 1, []int64{3, 2})) {
		t.Errorf("%d traces", len(got))
	}
}

// TestWrongThreads: P9.1; of these flow.Run tells the zero trace, which is Done and takes nothing: that is the only one.
func TestWrongThreads(t *testing.T) {
	only := []flow.Trace{{}}
	for k, c := range []struct {
		th   []api.Ins
		locs int
	}{
		{nil, 2}, {nil, 0},
		{[]api.Ins{{}}, 1}, {[]api.Ins{{Op: 15}}, 1}, {[]api.Ins{ldr(1, 0), {Op: math.MinInt}}, 1},
		{[]api.Ins{ldr(4, 0)}, 1}, {[]api.Ins{ldr(1, 1)}, 1}, {[]api.Ins{ldr(1, -1), ldr(1, 0)}, 1}, {[]api.Ins{str(1, 3)}, 3},
		{[]api.Ins{ldr(1, 0), cbz(1, 1)}, 1}, {[]api.Ins{mov(1, 1001), ldr(1, 0)}, 1}, {[]api.Ins{ldxr(1, 0), {Op: api.OpStxr, D: 4}}, 1},
		{[]api.Ins{ldr(1, 0)}, 0}, {[]api.Ins{ldr(1, 0)}, -1}, {[]api.Ins{ldr(1, 0)}, 4}, {[]api.Ins{ldr(1, 0)}, math.MaxInt}, {[]api.Ins{mov(1, 1)}, math.MinInt},
		{slices.Repeat([]api.Ins{isb()}, 9), 1}, {append(slices.Repeat([]api.Ins{mov(1, 1)}, 5), slices.Repeat([]api.Ins{ldr(1, 0)}, 4)...), 1},
	} {
		for _, vals := range [][]int64{nil, {1}, {4, 5, 6}} {
			if got := Traces(c.th, c.locs, vals); !sameAll(got, only) {
				t.Errorf("%d on %v: %+v", k, vals, got)
			}
		}
	}
}

// TestValuesOfAnySize: P9.1; what may be read is any number.
func TestValuesOfAnySize(t *testing.T) {
	th := []api.Ins{ldr(1, 0), add(2, 1, 1), {Op: api.OpStr, B: 2, A: 1, Loc: 2}}
	vals := []int64{math.MaxInt64, 0, math.MinInt64, -1, 1 << 62}
	want := [][4]int64{{0, math.MaxInt64, -2}, {}, {0, math.MinInt64, 0}, {0, -1, -2}, {0, 1 << 62, math.MinInt64}}
	got := Traces(th, 3, vals)
	if !slices.Equal(registers(got), want) || !sameAll(got, expectedTraces(th, 3, vals)) {
		t.Errorf("%+v", got)
	}
	if w := Wrote(got); !slices.Equal(w, []int64{math.MinInt64, -2, 0}) {
		t.Error(w)
	}
	many := make([]int64, 5000)
	for k := range many {
		many[k] = int64(k) * 7
	}
	got = Traces(th[:1], 1, many)
	if len(got) != 5000 || got[4999].Regs.V[1] != 34993 {
		t.Errorf("%d traces of 5000 values", len(got))
	}
}

// of is a trace of these events alone.
func of(l ...api.Event) flow.Trace {
	return flow.Trace{Events: l}
}

// TestWrote: P9.2; of writes alone, each value once, rising, as many as there are, of traces that are Done or not.
func TestWrote(t *testing.T) {
	w := func(v int64) api.Event { return api.Event{Kind: api.Write, Val: v} }
	var others, many []api.Event
	for kind := -1; kind <= 8; kind++ {
		if kind != api.Write {
			others = append(others, api.Event{Kind: kind, Val: int64(100 + kind)})
		}
	}
	others = append(others, api.Event{Kind: math.MaxInt, Val: 5}, api.Event{Kind: 1<<32 + api.Write, Val: 6})
	var rising []int64
	for k := range 300 {
		many = append(many, w(int64(299-k)))
		rising = append(rising, int64(k))
	}
	unfinished := of(w(4))
	unfinished.More = flow.Luck
	unfinished.Regs = regs.File{V: [4]int64{7, 7, 7, 7}}
	for k, c := range []struct {
		l    []flow.Trace
		want []int64
	}{
		{nil, nil}, {[]flow.Trace{{}}, nil}, {[]flow.Trace{of(others...)}, nil},
		{[]flow.Trace{of(w(3))}, []int64{3}},
		{[]flow.Trace{of(w(3), w(3)), of(w(3))}, []int64{3}},
		{[]flow.Trace{of(w(3), w(-2)), {}, of(w(0), w(3)), of(w(-10))}, []int64{-10, -2, 0, 3}},
		{[]flow.Trace{of(w(math.MaxInt64), w(0), w(math.MinInt64), w(-1))}, []int64{math.MinInt64, -1, 0, math.MaxInt64}},
		{[]flow.Trace{of(append(slices.Clone(others), w(2))...), of(w(1), others[0])}, []int64{1, 2}},
		{[]flow.Trace{of(api.Event{Thread: 2, Kind: api.Write, Loc: 9, Val: 8, Rel: true, Excl: true})}, []int64{8}},
		{[]flow.Trace{unfinished, of(many[:5]...)}, []int64{4, 295, 296, 297, 298, 299}},
		{[]flow.Trace{of(many...)}, rising},
	} {
		if got := Wrote(c.l); !slices.Equal(got, c.want) {
			t.Errorf("%d: %v, not %v", k, got, c.want)
		}
	}
}

// TestExample: the chapter's example: ldr 1, and add 1 of it stored: from 0 on, once: 0, and 1.
func TestExample(t *testing.T) {
	th := []api.Ins{mov(0, 1), ldr(1, 0), add(1, 1, 0), str(1, 0)}
	got, e := Of(api.Test{Init: []int64{0}, Threads: [][]api.Ins{th}})
	if !slices.Equal(got, []int64{0, 1}) || e != api.OK {
		t.Error(got, e)
	}
}

// next reads register 1 at the place 0, and stores it, one greater, as often as is said.
func next(stores int) []api.Ins {
	return append([]api.Ins{mov(0, 1), ldr(1, 0), add(1, 1, 0)}, slices.Repeat([]api.Ins{str(1, 0)}, stores)...)
}

// writes stores the numbers, one behind the other.
func writes(l ...int64) []api.Ins {
	var th []api.Ins
	for _, v := range l {
		th = append(th, mov(1, v), str(1, 0))
	}
	return th
}

// TestOf: P9.2; as often as there are stores, those that are never come to, too, and of what was there at the start of each
// time alone; up to eight values.
func TestOf(t *testing.T) {
	none := []api.Ins{isb()}
	for k, c := range []struct {
		init    []int64
		threads [][]api.Ins
		want    []int64
		e       api.Errno
	}{
		{[]int64{7}, [][]api.Ins{none}, []int64{7}, 0},
		{[]int64{7, -7, 7}, [][]api.Ins{none, none}, []int64{-7, 7}, 0},
		{[]int64{1000, 0, -1000}, [][]api.Ins{{ldr(1, 0), add(1, 1, 1)}}, []int64{-1000, 0, 1000}, 0},
		{[]int64{0}, [][]api.Ins{writes(5)}, []int64{0, 5}, 0},
		{[]int64{0}, [][]api.Ins{{str(3, 0)}}, []int64{0}, 0},
		{[]int64{4}, [][]api.Ins{{str(3, 0)}}, []int64{0, 4}, 0},
		{[]int64{0}, [][]api.Ins{next(1)}, []int64{0, 1}, 0},
		{[]int64{0}, [][]api.Ins{next(2)}, []int64{0, 1, 2}, 0},
		{[]int64{0}, [][]api.Ins{next(5)}, []int64{0, 1, 2, 3, 4, 5}, 0},
		{[]int64{0}, [][]api.Ins{next(1), next(1), next(1)}, []int64{0, 1, 2, 3}, 0},
		{[]int64{0, 2}, [][]api.Ins{next(5)}, []int64{0, 1, 2, 3, 4, 5, 6, 7}, 0},
		{[]int64{0, 3}, [][]api.Ins{next(5)}, nil, api.ErrFull},
		{[]int64{0}, [][]api.Ins{next(1), {cbz(0, 2), str(1, 0), str(1, 0)}}, []int64{0, 1, 2, 3}, 0},
		{[]int64{0}, [][]api.Ins{writes(7), next(1)}, []int64{0, 1, 2, 7, 8}, 0},
		{[]int64{0}, [][]api.Ins{next(1), writes(7)}, []int64{0, 1, 2, 7, 8}, 0},
		{[]int64{-1, -2}, [][]api.Ins{writes(1, 2, 3), writes(4, 5, 6)}, []int64{-2, -1, 1, 2, 3, 4, 5, 6}, 0},
		{[]int64{-1, -2, -3}, [][]api.Ins{writes(1, 2, 3), writes(4, 5, 6)}, nil, api.ErrFull},
		{[]int64{-1, -2, -3}, [][]api.Ins{writes(1, 2, 3), writes(4, 5, 5)}, []int64{-3, -2, -1, 1, 2, 3, 4, 5}, 0},
		{[]int64{-1, -2, -3}, [][]api.Ins{writes(1, 2), writes(-2, 4), writes(5, 3)}, []int64{-3, -2, -1, 1, 2, 3, 4, 5}, 0},
		{[]int64{1, 2}, [][]api.Ins{{ldxr(1, 0), stxr(2, 1, 0), str(2, 0)}}, []int64{0, 1, 2}, 0},
		{[]int64{3}, [][]api.Ins{{ldxr(1, 0), add(1, 1, 1), stxr(2, 1, 0)}}, []int64{3, 6}, 0},
		{[]int64{3, 3}, [][]api.Ins{{ldxr(1, 0), add(1, 1, 1), stxr(2, 1, 1)}}, []int64{3}, 0},
		{[]int64{5, 5}, [][]api.Ins{{mov(3, 2), ldxr(1, 0), {Op: api.OpStxr, D: 2, B: 3, A: 3}}}, []int64{2, 5}, 0},
		{[]int64{5, 5, 5}, [][]api.Ins{{mov(3, 2), ldxr(1, 0), {Op: api.OpStxr, D: 2, B: 3, A: 3}}}, []int64{5}, 0},
		{[]int64{1000}, [][]api.Ins{{ldr(1, 0), add(1, 1, 1), str(1, 0), str(1, 0), str(1, 0), str(1, 0), str(1, 0)}}, []int64{1000, 2000, 4000, 8000, 16000, 32000}, 0},
		{[]int64{1, 2}, [][]api.Ins{{ldr(1, 0), {Op: api.OpStr, B: 1, A: 1, Loc: 1}, cbz(1, 1), str(0, 1)}}, []int64{0, 1, 2}, 0},
		{[]int64{0, 1}, [][]api.Ins{{ldr(1, 0), ldr(2, 0), ldr(3, 0), ldr(0, 0), add(1, 1, 2), add(3, 3, 0), add(1, 1, 3), str(1, 0)}}, []int64{0, 1, 2, 3, 4}, 0},
	} {
		got, e := Of(api.Test{Init: c.init, Threads: c.threads})
		if !slices.Equal(got, c.want) || e != c.e {
			t.Errorf("%d: %v, %d, not %v, %d", k, got, e, c.want, c.e)
		}
	}
}

// TestOfWrongTests: P9.2; test.Check's error, ahead of that of too many values, and nothing beside it.
func TestOfWrongTests(t *testing.T) {
	one := []api.Ins{isb()}
	five := slices.Repeat([]api.Ins{ldr(1, 0)}, 5)
	for k, c := range []struct {
		t api.Test
		e api.Errno
	}{
		{api.Test{}, api.ErrArg},
		{api.Test{Threads: [][]api.Ins{one}}, api.ErrArg},
		{api.Test{Init: []int64{1, 2, 3, 4}, Threads: [][]api.Ins{one}}, api.ErrArg},
		{api.Test{Init: []int64{1, 2, 3, 4, 5, 6, 7, 8, 9}, Threads: [][]api.Ins{one}}, api.ErrArg},
		{api.Test{Init: []int64{1001}, Threads: [][]api.Ins{one}}, api.ErrArg},
		{api.Test{Init: []int64{math.MinInt64}, Threads: [][]api.Ins{one}}, api.ErrArg},
		{api.Test{Init: []int64{0}}, api.ErrArg},
		{api.Test{Init: []int64{0}, Threads: [][]api.Ins{one, one, one, one}}, api.ErrArg},
		{api.Test{Init: []int64{0}, Threads: [][]api.Ins{one, nil}}, api.ErrArg},
		{api.Test{Init: []int64{0}, Threads: [][]api.Ins{slices.Repeat(one, 9)}}, api.ErrArg},
		{api.Test{Init: []int64{0}, Threads: [][]api.Ins{one, {isb(), {Op: 15}}}}, api.ErrForm},
		{api.Test{Init: []int64{0}, Threads: [][]api.Ins{{ldr(1, 1)}}}, api.ErrForm},
		{api.Test{Init: []int64{-1, -2, -3}, Threads: [][]api.Ins{writes(1, 2, 3), writes(4, 5, 6), {cbz(1, 1)}}}, api.ErrForm},
		{api.Test{Init: []int64{0}, Threads: [][]api.Ins{five}}, api.ErrFull},
		{api.Test{Init: []int64{0}, Threads: [][]api.Ins{five[:4], next(2)}}, api.ErrFull},
		{api.Test{Init: []int64{0}, Threads: [][]api.Ins{slices.Repeat([]api.Ins{str(1, 0)}, 7)}}, api.ErrFull},
	} {
		if _, _, e := test.Check(c.t); e != c.e {
			t.Fatalf("%d: test.Check tells %d", k, e)
		}
		if got, e := Of(c.t); len(got) != 0 || e != c.e {
			t.Errorf("%d: %v, %d", k, got, e)
		}
	}
}

// eachTest hands on tests of one to three threads of the kit, those that may not be, too.
func eachTest(do func(t api.Test)) {
	var threads [][]api.Ins
	for n := 1; n <= 6; n++ {
		eachLong(500, n, func(th []api.Ins) { threads = append(threads, th) })
	}
	inits := [][]int64{{0, 0}, {1, -1}, {3, 10, 3}, {-2, 5, 1}, {60, -8, 3}}
	for k := range 3 * len(threads) {
		t := api.Test{Init: inits[k%len(inits)]}
		for n := range 1 + k%3 {
			t.Threads = append(t.Threads, threads[(k*(2*n+1)+n*97)%len(threads)])
		}
		do(t)
	}
}

// TestOfManyTests: P9.2, of tests of the kit.
func TestOfManyTests(t *testing.T) {
	full, grown := 0, 0
	eachTest(func(u api.Test) {
		got, e := Of(u)
		if _, _, wrong := test.Check(u); wrong != api.OK {
			if len(got) != 0 || e != wrong {
				t.Fatalf("Of(%v) is %v, %d; test.Check tells %d", u, got, e, wrong)
			}
			return
		}
		want, wantE := expectedOf(u)
		if !slices.Equal(got, want) || e != wantE {
			t.Fatalf("Of(%v) is %v, %d, not %v, %d", u, got, e, want, wantE)
		}
		if e == api.ErrFull {
			full++
		} else if len(got) > len(u.Init) {
			grown++
		}
	})
	if full < 10 || grown < 10 {
		t.Errorf("only %d tests of too many values, and %d of more than at first", full, grown)
	}
}

// TestMoreValues: P9.3; on more values there are all traces that there were, in the same turn, among others, and no less is
// written.
func TestMoreValues(t *testing.T) {
	for n := 1; n <= 7; n++ {
		eachLong(400, n, func(th []api.Ins) {
			few := Traces(th, 2, []int64{2, 0})
			for _, vals := range [][]int64{{2, 0, 1}, {2, 1, 0}, {1, 2, 0}, {2, 0, 0}} {
				more := Traces(th, 2, vals)
				rest := more
				for _, tr := range few {
					k := slices.IndexFunc(rest, func(x flow.Trace) bool { return same(x, tr) })
					if k < 0 {
						t.Fatalf("%v: on %v there is no %+v at its turn", th, vals, tr)
					}
					rest = rest[k+1:]
				}
				wrote := Wrote(more)
				for _, v := range Wrote(few) {
					if !slices.Contains(wrote, v) {
						t.Fatalf("%v: on %v no %d is written", th, vals, v)
					}
				}
			}
		})
	}
}

// TestWhatMayBeRead: P9.3; all of Init is there, and all that a thread writes that reads Init alone, or, of two stores or more,
// what came of that; and the whole is rising.
func TestWhatMayBeRead(t *testing.T) {
	eachTest(func(u api.Test) {
		got, e := Of(u)
		if e != api.OK {
			return
		}
		if !slices.IsSorted(got) || len(slices.Compact(slices.Clone(got))) != len(got) || len(got) > 8 {
			t.Fatalf("Of(%v) is %v", u, got)
		}
		_, stores := test.Count(u)
		reads := slices.Clone(u.Init)
		for range stores {
			var written []int64
			for _, th := range u.Threads {
				written = append(written, Wrote(Traces(th, len(u.Init), reads))...)
			}
			slices.Sort(written)
			reads = slices.Compact(append(written, u.Init...))
		}
		for _, v := range reads {
			if !slices.Contains(got, v) {
				t.Fatalf("Of(%v) is %v, without %d", u, got, v)
			}
		}
	})
}

// TestGreatest: P9.2; the greatest tests are done with at once: all of eight values, four loads, and lucks.
func TestGreatest(t *testing.T) {
	th := []api.Ins{ldxr(1, 0), stxr(2, 1, 0), ldxr(1, 0), stxr(2, 1, 0), ldr(0, 0), ldr(3, 0)}
	vals := []int64{0, 1, 2, 3, 4, 5, 6, 7}
	if got := Traces(th, 1, vals); len(got) != 8*8*8*8*4 {
		t.Errorf("%d traces", len(got))
	}
	u := api.Test{Init: []int64{0, 2, 5}, Threads: [][]api.Ins{
		{ldr(1, 0), ldr(2, 0), ldr(3, 0), ldr(0, 0), {Op: api.OpEor, D: 1, A: 1, B: 2}, {Op: api.OpEor, D: 1, A: 1, B: 3}, {Op: api.OpEor, D: 1, A: 1, B: 0}, str(1, 0)},
		{mov(1, 2), str(1, 0)},
	}}
	if got, e := Of(u); !slices.Equal(got, []int64{0, 2, 5, 7}) || e != api.OK {
		t.Error(got, e)
	}
}

// TestNothingIsKept: what is handed in stays, answers are apart, and a call tells the same again.
func TestNothingIsKept(t *testing.T) {
	th := []api.Ins{ldxr(1, 0), stxr(2, 1, 0), ldr(3, 0), str(3, 1)}
	vals := []int64{6, 2, 6}
	u := api.Test{Init: []int64{5, 1}, Threads: [][]api.Ins{th, {str(3, 0)}}}
	keptTh, keptVals, keptInit := slices.Clone(th), slices.Clone(vals), slices.Clone(u.Init)
	want := expectedTraces(th, 2, vals)
	first := Traces(th, 2, vals)
	second := Traces(th, 2, vals)
	wrote := Wrote(second)
	may, _ := Of(u)
	for n := range first {
		for k := range first[n].Events {
			first[n].Events[k], first[n].Addr[k], first[n].Data[k], first[n].Ctrl[k], first[n].Pair[k] = api.Event{Val: int64(77 + n)}, 71, 72, 73, 74
		}
		for later := n + 1; later < len(first); later++ {
			if !same(first[later], want[later]) {
				t.Fatalf("%d and %d share memory", n, later)
			}
		}
	}
	wrote[0], may[0] = 99, 99
	if !sameAll(second, want) || !sameAll(Traces(th, 2, vals), want) {
		t.Error("other traces")
	}
	if got := Wrote(second); !slices.Equal(got, []int64{2, 6}) {
		t.Error(got)
	}
	if got, e := Of(u); !slices.Equal(got, []int64{0, 1, 5}) || e != api.OK {
		t.Error(got, e)
	}
	if !slices.Equal(th, keptTh) || !slices.Equal(vals, keptVals) || !slices.Equal(u.Init, keptInit) {
		t.Errorf("changed: %v, %v, %v", th, vals, u.Init)
	}
}

// TestInitStays: what is handed in stays, of a test without stores, of rising values, too, of which Of's answer is just Init.
func TestInitStays(t *testing.T) {
	u := api.Test{Init: []int64{3, 8}, Threads: [][]api.Ins{{isb()}}}
	got, e := Of(u)
	if !slices.Equal(got, u.Init) || e != api.OK {
		t.Fatal(got, e)
	}
	got[0], got[1] = 9, 9
	if !slices.Equal(u.Init, []int64{3, 8}) {
		t.Errorf("Init is %v", u.Init)
	}
}
