package test

import (
	"math"
	"reflect"
	"slices"
	"testing"

	"cupola/api"
	"cupola/ins"
)

// Instructions as the tests below want them: each may be at one place of memory.
var (
	mov  = api.Ins{Op: api.OpMov, D: 1, Imm: 7}
	add  = api.Ins{Op: api.OpAdd, D: 1, A: 2, B: 3}
	eor  = api.Ins{Op: api.OpEor, D: 1, A: 2, B: 3}
	and  = api.Ins{Op: api.OpAnd, D: 1, A: 2, B: 3}
	ldr  = api.Ins{Op: api.OpLdr, D: 1, A: -1}
	ldar = api.Ins{Op: api.OpLdar, D: 2, A: 3}
	ldxr = api.Ins{Op: api.OpLdxr, D: 3, A: -1}
	str  = api.Ins{Op: api.OpStr, B: 1, A: -1}
	stlr = api.Ins{Op: api.OpStlr, B: 2, A: 0}
	stxr = api.Ins{Op: api.OpStxr, D: 1, B: 3, A: -1}
	isb  = api.Ins{Op: api.OpIsb}
	bad  = api.Ins{Op: 15}
)

func dmb(imm int64) api.Ins {
	return api.Ins{Op: api.OpDmb, Imm: imm}
}

func cbz(imm int64) api.Ins {
	return api.Ins{Op: api.OpCbz, A: 1, Imm: imm}
}

func cbnz(imm int64) api.Ins {
	return api.Ins{Op: api.OpCbnz, A: 2, Imm: imm}
}

// of is a test of threads, with one place of memory.
func of(threads ...[]api.Ins) api.Test {
	return api.Test{Init: []int64{0}, Threads: threads}
}

func times(n int, x api.Ins) []api.Ins {
	return slices.Repeat([]api.Ins{x}, n)
}

func with(init ...int64) api.Test {
	return api.Test{Init: init, Threads: [][]api.Ins{{mov}}}
}

// same holds nil and empty for the same.
func same(a, b api.Test) bool {
	return slices.Equal(a.Init, b.Init) && slices.EqualFunc(a.Threads, b.Threads, slices.Equal[[]api.Ins])
}

// deep is a copy by hand, to hold against what may have changed.
func deep(t api.Test) api.Test {
	u := api.Test{Init: append([]int64(nil), t.Init...)}
	for _, l := range t.Threads {
		u.Threads = append(u.Threads, append([]api.Ins(nil), l...))
	}
	return u
}

type checkCase struct {
	name          string
	t             api.Test
	thread, place int
	e             api.Errno
}

func runChecks(t *testing.T, cases []checkCase) {
	t.Helper()
	for _, c := range cases {
		was := deep(c.t)
		i, k, e := Check(c.t)
		if i != c.thread || k != c.place || e != c.e {
			t.Errorf("%s: Check is %d, %d, %d, not %d, %d, %d", c.name, i, k, e, c.thread, c.place, c.e)
		}
		if !same(was, c.t) {
			t.Errorf("%s: Check changed what it was given", c.name)
		}
	}
}

// TestCheckInit: P2.1, of Init's length and numbers at their edges.
func TestCheckInit(t *testing.T) {
	runChecks(t, []checkCase{
		{"no test at all", api.Test{}, 0, 0, api.ErrArg},
		{"Init of nil", with(), 0, 0, api.ErrArg},
		{"empty Init", api.Test{Init: []int64{}, Threads: [][]api.Ins{{mov}}}, 0, 0, api.ErrArg},
		{"one place", with(0), 0, 0, api.OK},
		{"three places", with(1, 2, 3), 0, 0, api.OK},
		{"four places", with(1, 2, 3, 4), 0, 0, api.ErrArg},
		{"-1000", with(-1000), 0, 0, api.OK},
		{"1000", with(0, 0, 1000), 0, 0, api.OK},
		{"-1001", with(-1001), 0, 0, api.ErrArg},
		{"1001, last", with(0, 0, 1001), 0, 0, api.ErrArg},
		{"the lowest number", with(0, math.MinInt64), 0, 0, api.ErrArg},
		{"the highest number", with(math.MaxInt64), 0, 0, api.ErrArg},
		{"1 and 2^32", with(1<<32 + 1), 0, 0, api.ErrArg},
	})
}

// TestCheckThreads: P2.1, of how many threads there are, and how many instructions they have.
func TestCheckThreads(t *testing.T) {
	one := []api.Ins{mov}
	runChecks(t, []checkCase{
		{"no threads", of(), 0, 0, api.ErrArg},
		{"empty list of threads", api.Test{Init: []int64{0}, Threads: [][]api.Ins{}}, 0, 0, api.ErrArg},
		{"one", of(one), 0, 0, api.OK},
		{"three", of(one, one, one), 0, 0, api.OK},
		{"four", of(one, one, one, one), 0, 0, api.ErrArg},
		{"four, one of them at fault", of([]api.Ins{bad}, one, one, one), 0, 0, api.ErrArg},
		{"a thread of nil", of(nil), 0, 0, api.ErrArg},
		{"an empty thread, second", of(one, []api.Ins{}, one), 1, 0, api.ErrArg},
		{"an empty thread, third", of(one, one, nil), 2, 0, api.ErrArg},
		{"eight instructions", of(one, times(8, mov)), 0, 0, api.OK},
		{"nine instructions, second", of(one, times(9, mov)), 1, 0, api.ErrArg},
		{"nine instructions, third", of(one, one, times(9, mov)), 2, 0, api.ErrArg},
	})
}

// TestCheckForm: P2.1, of instructions that may not be: how many stand behind them counts, and Init's length.
func TestCheckForm(t *testing.T) {
	two := ldr
	two.Loc = 1
	twoPlaces := api.Test{Init: []int64{0, 0}, Threads: [][]api.Ins{{mov, two}}}
	runChecks(t, []checkCase{
		{"one without a name", of([]api.Ins{bad}), 0, 0, api.ErrForm},
		{"the first of two at fault", of([]api.Ins{mov, bad, bad}), 0, 1, api.ErrForm},
		{"the last of eight", of([]api.Ins{mov}, append(times(7, mov), bad)), 1, 7, api.ErrForm},
		{"the third thread", of([]api.Ins{mov}, []api.Ins{mov}, []api.Ins{mov, mov, bad}), 2, 2, api.ErrForm},
		{"a branch to the end", of([]api.Ins{cbz(2), mov, mov}), 0, 0, api.OK},
		{"a branch too far", of([]api.Ins{cbz(3), mov, mov}), 0, 0, api.ErrForm},
		{"a branch too far, in the middle", of([]api.Ins{mov, cbnz(2), mov}), 0, 1, api.ErrForm},
		{"a branch over none, at the end", of([]api.Ins{mov, cbnz(0)}), 0, 0, api.OK},
		{"a branch over one, at the end", of([]api.Ins{mov, cbnz(1)}), 0, 1, api.ErrForm},
		{"a branch backward", of([]api.Ins{mov, cbz(-1)}), 0, 1, api.ErrForm},
		{"the second place, of one", of([]api.Ins{mov, two}), 0, 1, api.ErrForm},
		{"the second place, of two", twoPlaces, 0, 0, api.OK},
		{"all that may be", of([]api.Ins{mov, add, eor, and, ldr, ldar, ldxr, str}, []api.Ins{stlr, stxr, dmb(2), isb, cbz(1), cbnz(0)}), 0, 0, api.OK},
	})
}

// TestCheckFull: P2.1, of six loads and stores, and four loads.
func TestCheckFull(t *testing.T) {
	runChecks(t, []checkCase{
		{"six stores", of(times(6, str)), 0, 0, api.OK},
		{"seven stores", of(times(7, str)), 0, 0, api.ErrFull},
		{"four loads", of(times(4, ldr)), 0, 0, api.OK},
		{"five loads", of(times(5, ldr)), 0, 0, api.ErrFull},
		{"four loads of three threads", of(times(2, ldr), times(1, ldar), times(1, ldxr)), 0, 0, api.OK},
		{"five loads of three threads", of(times(2, ldr), times(1, ldar), times(2, ldxr)), 0, 0, api.ErrFull},
		{"four loads and two stores", of(times(4, ldr), times(2, stlr)), 0, 0, api.OK},
		{"four loads and three stores", of(times(4, ldr), times(3, stxr)), 0, 0, api.ErrFull},
		{"one load and six stores", of(times(1, ldr), times(6, str)), 0, 0, api.ErrFull},
		{"many others", of(times(8, mov), times(8, isb), times(8, dmb(1))), 0, 0, api.OK},
	})
}

// TestCheckFirst: P2.1, of tests with several faults: the one that is named first is told, thread by thread.
func TestCheckFirst(t *testing.T) {
	full := times(7, str)
	runChecks(t, []checkCase{
		{"Init, and a thread", api.Test{Init: []int64{1001}, Threads: [][]api.Ins{{mov}, {bad}}}, 0, 0, api.ErrArg},
		{"Init, and too much", api.Test{Threads: [][]api.Ins{full}}, 0, 0, api.ErrArg},
		{"an instruction, and a thread behind it", of([]api.Ins{mov, bad}, nil), 0, 1, api.ErrForm},
		{"a thread, and an instruction behind it", of([]api.Ins{mov}, nil, []api.Ins{bad}), 1, 0, api.ErrArg},
		{"nine instructions, one at fault", of([]api.Ins{mov}, append([]api.Ins{mov, bad}, times(7, mov)...)), 1, 0, api.ErrArg},
		{"two threads' instructions", of([]api.Ins{mov}, []api.Ins{mov, mov, bad}, []api.Ins{bad}), 1, 2, api.ErrForm},
		{"too much, and an instruction behind it", of(full, []api.Ins{mov, bad}), 1, 1, api.ErrForm},
		{"too much, and an empty thread behind it", of(full, nil), 1, 0, api.ErrArg},
		{"nine loads", of(times(9, ldr)), 0, 0, api.ErrArg},
	})
}

// TestCount: P2.1; what may not be is counted, too.
func TestCount(t *testing.T) {
	wild := api.Ins{Op: api.OpStxr, D: math.MinInt, A: math.MaxInt, B: -9, Loc: -1, Imm: math.MaxInt64}
	for n, c := range []struct {
		t             api.Test
		loads, stores int
	}{
		{api.Test{}, 0, 0},
		{of(nil, []api.Ins{}), 0, 0},
		{of([]api.Ins{ldr}), 1, 0},
		{of([]api.Ins{str}), 0, 1},
		{of([]api.Ins{ldr, ldar}, []api.Ins{str, stlr, ldxr}, []api.Ins{stxr}), 3, 3},
		{of([]api.Ins{mov, add, eor, and, dmb(0), isb, cbz(0), cbnz(0), bad}), 0, 0},
		{of([]api.Ins{wild, {Op: -5}, wild}, nil, []api.Ins{ldr}), 1, 2},
		{api.Test{Threads: [][]api.Ins{times(5000, ldr), times(70, str), {ldar}, {stlr}}}, 5001, 71},
	} {
		if loads, stores := Count(c.t); loads != c.loads || stores != c.stores {
			t.Errorf("%d: Count is %d, %d, not %d, %d", n, loads, stores, c.loads, c.stores)
		}
	}
}

// TestTurned: P2.2, of threads whose answer is written out.
func TestTurned(t *testing.T) {
	f := dmb(0)
	for _, c := range []struct {
		name               string
		thread, bare, both []api.Ins
	}{
		{"the chapter's example", []api.Ins{str, dmb(0), ldr}, []api.Ins{str, ldr}, []api.Ins{f, str, f, ldr}},
		{"nothing to turn", []api.Ins{mov, add}, []api.Ins{mov, add}, []api.Ins{mov, add}},
		{"all barriers", []api.Ins{dmb(0), mov, dmb(1), isb, dmb(2)}, []api.Ins{mov}, []api.Ins{mov}},
		{"barriers alone", []api.Ins{dmb(1), isb}, nil, nil},
		{"each load and store",
			[]api.Ins{ldr, ldar, ldxr, str, stlr, stxr},
			[]api.Ins{ldr, ldar, ldxr, str, stlr, stxr},
			[]api.Ins{f, ldr, f, ldar, f, ldxr, f, str, f, stlr, f, stxr}},
		{"a branch over none", []api.Ins{cbz(0), isb, ldr}, []api.Ins{cbz(0), ldr}, []api.Ins{cbz(0), f, ldr}},
		{"a branch over one barrier", []api.Ins{cbz(1), isb, ldr}, []api.Ins{cbz(0), ldr}, []api.Ins{cbz(0), f, ldr}},
		{"a branch over a load", []api.Ins{cbnz(1), ldr, str}, []api.Ins{cbnz(1), ldr, str}, []api.Ins{cbnz(2), f, ldr, f, str}},
		{"a branch up to a barrier", []api.Ins{cbnz(1), ldr, dmb(2), str}, []api.Ins{cbnz(1), ldr, str}, []api.Ins{cbnz(2), f, ldr, f, str}},
		{"barriers ahead of a branch, and behind what it leaves out",
			[]api.Ins{isb, cbz(2), mov, str, isb}, []api.Ins{cbz(2), mov, str}, []api.Ins{cbz(3), mov, f, str}},
		{"a branch to the end",
			[]api.Ins{cbz(5), dmb(1), ldr, isb, stxr, dmb(0)}, []api.Ins{cbz(2), ldr, stxr}, []api.Ins{cbz(4), f, ldr, f, stxr}},
		{"branches over branches",
			[]api.Ins{cbz(6), cbnz(2), isb, ldr, cbz(1), dmb(2), str, mov},
			[]api.Ins{cbz(4), cbnz(1), ldr, cbz(0), str, mov},
			[]api.Ins{cbz(6), cbnz(2), f, ldr, cbz(0), f, str, mov}},
	} {
		x := of(c.thread)
		if _, _, e := Check(x); e != api.OK {
			t.Fatalf("%s: no test that may be", c.name)
		}
		if got := Bare(x); !same(got, of(c.bare)) {
			t.Errorf("%s: Bare is %v, not %v", c.name, got.Threads[0], c.bare)
		}
		if got := Fenced(x); !same(got, of(c.both)) {
			t.Errorf("%s: Fenced is %v, not %v", c.name, got.Threads[0], c.both)
		}
	}
}

// TestTurnedEach: P2.2; each thread is turned by itself, and Init stays.
func TestTurnedEach(t *testing.T) {
	x := api.Test{Init: []int64{5, -1000, 7}, Threads: [][]api.Ins{{ldr, isb, str}, {dmb(1)}, {cbz(2), dmb(0), stlr}}}
	bare := api.Test{Init: x.Init, Threads: [][]api.Ins{{ldr, str}, nil, {cbz(1), stlr}}}
	both := api.Test{Init: x.Init, Threads: [][]api.Ins{{dmb(0), ldr, dmb(0), str}, nil, {cbz(2), dmb(0), stlr}}}
	if got := Bare(x); !same(got, bare) {
		t.Errorf("Bare is %v, not %v", got, bare)
	}
	if got := Fenced(x); !same(got, both) {
		t.Errorf("Fenced is %v, not %v", got, both)
	}
}

// faulty are tests that may not be.
func faulty() []api.Test {
	wild := api.Ins{Op: api.OpCbz, Imm: math.MaxInt64}
	back := api.Ins{Op: api.OpCbnz, Imm: math.MinInt64}
	return []api.Test{
		{},
		{Threads: [][]api.Ins{{ldr, isb}}},
		{Init: []int64{1001}, Threads: [][]api.Ins{{ldr, isb}}},
		{Init: []int64{0, 0, 0, 0}, Threads: [][]api.Ins{{dmb(0), ldr}}},
		of(),
		of([]api.Ins{isb, ldr}, nil),
		of([]api.Ins{isb, ldr}, nil, nil, nil),
		of([]api.Ins{isb, ldr}, []api.Ins{wild, isb}),
		of([]api.Ins{back, isb, ldr}),
		of([]api.Ins{isb, ldr, bad}),
		of(append(times(8, isb), ldr)),
		of(append(times(7, str), dmb(1))),
		of(append(times(5, ldr), dmb(1))),
	}
}

// TestTurnedFaulty: P2.2; of tests that may not be, t itself.
func TestTurnedFaulty(t *testing.T) {
	for n, x := range faulty() {
		if got := Bare(x); !same(got, x) {
			t.Errorf("%d: Bare is %v, not %v", n, got, x)
		}
		if got := Fenced(x); !same(got, x) {
			t.Errorf("%d: Fenced is %v, not %v", n, got, x)
		}
	}
}

// TestTurnedIsNew: what is told shares no memory with what was handed in, and leaves that as it was.
func TestTurnedIsNew(t *testing.T) {
	tests := append(faulty(), of([]api.Ins{cbz(2), isb, ldr}, []api.Ins{mov}), of([]api.Ins{mov}))
	for n, x := range tests {
		was := deep(x)
		for _, turn := range []func(api.Test) api.Test{Bare, Fenced} {
			got := turn(x)
			for i := range got.Init {
				got.Init[i] = 99
			}
			for i := range got.Threads {
				for k := range got.Threads[i] {
					got.Threads[i][k] = api.Ins{Op: 99}
				}
				_ = append(got.Threads[i], bad)
				got.Threads[i] = nil
			}
			if !same(x, was) {
				t.Fatalf("%d: what was handed in has changed: %v, not %v", n, x, was)
			}
		}
	}
}

// TestTurnedApart: threads that share memory when handed in don't share any when told.
func TestTurnedApart(t *testing.T) {
	one := []api.Ins{mov, ldr}
	for _, x := range []api.Test{of(one, one), of(one, one, nil)} {
		for _, turn := range []func(api.Test) api.Test{Bare, Fenced} {
			got := turn(x)
			want := slices.Clone(got.Threads[1])
			for k := range got.Threads[0] {
				got.Threads[0][k] = bad
			}
			if !slices.Equal(got.Threads[1], want) {
				t.Errorf("two threads of one answer share memory: %v", got.Threads[1])
			}
		}
	}
}

// eachThread goes through all threads of so many of these instructions, with branches as far as they may go.
func eachThread(size int, see func([]api.Ins)) {
	thread := make([]api.Ins, size)
	var fill func(k int)
	fill = func(k int) {
		if k == size {
			see(slices.Clone(thread))
			return
		}
		choices := []api.Ins{mov, ldr, stxr, dmb(1), isb}
		for imm := range size - k {
			choices = append(choices, cbz(int64(imm)))
		}
		for _, x := range choices {
			// The number of the place tells unlike instructions apart; branches keep theirs in Imm.
			if x.Op == api.OpMov {
				x.Imm = int64(k)
			}
			thread[k] = x
			fill(k + 1)
		}
	}
	fill(0)
}

// memory are a thread's loads and stores, in turn.
func memory(thread []api.Ins) []api.Ins {
	var l []api.Ins
	for _, x := range thread {
		if ins.Kind(x) != 0 {
			l = append(l, x)
		}
	}
	return l
}

// walk is what a thread comes by, its barriers aside, when the branches leave out by the bits of lucky.
func walk(thread []api.Ins, lucky int) []api.Ins {
	var l []api.Ins
	for k, branch := 0, 0; k < len(thread); k++ {
		x := thread[k]
		switch {
		case x.Op == api.OpCbz:
			if lucky>>branch&1 != 0 {
				k += int(x.Imm)
			}
			branch++
		case x.Op != api.OpDmb && x.Op != api.OpIsb:
			l = append(l, x)
		}
	}
	return l
}

// TestTurnedWalks: P2.2 and P2.3, of all threads of few instructions: what is bare has no barriers and else all
// that there was; what is fenced has one ahead of each load and store, and no other; branches lead to what they led to.
func TestTurnedWalks(t *testing.T) {
	for size := 1; size <= 4; size++ {
		eachThread(size, func(thread []api.Ins) {
			x := of(thread)
			bare, both := Bare(x).Threads[0], Fenced(x).Threads[0]
			if !slices.Equal(memory(bare), memory(thread)) || !slices.Equal(memory(both), memory(thread)) {
				t.Fatalf("loads and stores of %v: bare %v, fenced %v", thread, bare, both)
			}
			if n := slices.IndexFunc(bare, func(x api.Ins) bool { return x.Op == api.OpDmb || x.Op == api.OpIsb }); n >= 0 {
				t.Fatalf("%v, bare, has a barrier: %v", thread, bare)
			}
			if len(both) != len(bare)+len(memory(thread)) {
				t.Fatalf("%v, fenced: %v", thread, both)
			}
			for k, x := range both {
				fence := x == dmb(0)
				ahead := k+1 < len(both) && ins.Kind(both[k+1]) != 0
				if fence != ahead || x.Op == api.OpIsb {
					t.Fatalf("%v, fenced: %v", thread, both)
				}
			}
			for lucky := range 1 << size {
				want := walk(thread, lucky)
				if !reflect.DeepEqual(walk(bare, lucky), want) || !reflect.DeepEqual(walk(both, lucky), want) {
					t.Fatalf("%v goes %v, bare %v, fenced %v", thread, want, bare, both)
				}
			}
			checkBareMay(t, x)
		})
	}
}

// checkBareMay: P2.3, of what isn't left without instructions when it is bare.
func checkBareMay(t *testing.T, x api.Test) {
	bare := Bare(x)
	for _, l := range bare.Threads {
		if len(l) == 0 {
			return
		}
	}
	if i, k, e := Check(bare); i != 0 || k != 0 || e != api.OK {
		t.Fatalf("%v may be, but bare it is %v: %d, %d, %d", x, bare, i, k, e)
	}
	if again := Bare(bare); !same(again, bare) {
		t.Fatalf("%v, bare twice, is %v", bare, again)
	}
}

// TestBareMay: P2.3, of whole tests at the limits.
func TestBareMay(t *testing.T) {
	for _, x := range []api.Test{
		of([]api.Ins{cbz(7), dmb(0), ldr, dmb(1), ldar, isb, ldxr, dmb(2)}, []api.Ins{str, cbnz(1), isb}, []api.Ins{stxr, dmb(0), ldr}),
		of(append(times(7, isb), mov), times(8, mov), append([]api.Ins{cbnz(7)}, append(times(6, str), isb)...)),
		{Init: []int64{1000, -1000, 3}, Threads: [][]api.Ins{{{Op: api.OpLdr, A: 3, Loc: 2}, isb}}},
	} {
		if _, _, e := Check(x); e != api.OK {
			t.Fatalf("%v may not be", x)
		}
		checkBareMay(t, x)
	}
}
