package exec

import (
	"fmt"
	"math"
	"slices"
	"testing"

	"cupola/api"
	"cupola/flow"
	"cupola/regs"
	"cupola/rel"
	"cupola/test"
	"cupola/vals"
)

// mov, ldr and so on write instructions shortly; the place is Loc alone, where no base is told.
func mov(d int, imm int64) api.Ins   { return api.Ins{Op: api.OpMov, D: d, Imm: imm} }
func eor(d, a, b int) api.Ins        { return api.Ins{Op: api.OpEor, D: d, A: a, B: b} }
func ldr(d, loc int) api.Ins         { return api.Ins{Op: api.OpLdr, D: d, A: -1, Loc: loc} }
func ldrAt(d, base, loc int) api.Ins { return api.Ins{Op: api.OpLdr, D: d, A: base, Loc: loc} }
func ldxr(d, loc int) api.Ins        { return api.Ins{Op: api.OpLdxr, D: d, A: -1, Loc: loc} }
func str(b, loc int) api.Ins         { return api.Ins{Op: api.OpStr, B: b, A: -1, Loc: loc} }
func strAt(b, base, loc int) api.Ins { return api.Ins{Op: api.OpStr, B: b, A: base, Loc: loc} }
func stxr(d, b, loc int) api.Ins     { return api.Ins{Op: api.OpStxr, D: d, B: b, A: -1, Loc: loc} }
func cbz(a int, imm int64) api.Ins   { return api.Ins{Op: api.OpCbz, A: a, Imm: imm} }
func dmb(imm int64) api.Ins          { return api.Ins{Op: api.OpDmb, Imm: imm} }
func isb() api.Ins                   { return api.Ins{Op: api.OpIsb} }

// kit is instructions of few registers and two places, so that short threads of them have much to do with each other.
func kit() []api.Ins {
	return []api.Ins{
		ldr(1, 0), ldrAt(2, 1, 1), {Op: api.OpLdar, D: 0, A: -1, Loc: 1}, ldxr(1, 0), ldxr(0, 1),
		stxr(2, 1, 0), {Op: api.OpStxr, D: 0, B: 0, A: 2, Loc: 1}, str(1, 1), strAt(2, 1, 0), {Op: api.OpStlr, B: 0, A: 2},
		mov(1, 1), {Op: api.OpAdd, D: 1, A: 1, B: 2}, eor(0, 1, 2), cbz(1, 1), {Op: api.OpCbnz, A: 2, Imm: 2}, dmb(0), isb(),
	}
}

// someThreads are threads of n instructions of the kit, wide apart by their numbers. Those of which a branch leads beyond
// their end are among them: they may not be.
func someThreads(many, n int) [][]api.Ins {
	l := kit()
	var threads [][]api.Ins
	for k := range many {
		number := (k + 1) * 618033989
		var th []api.Ins
		for range n {
			th = append(th, l[number%len(l)])
			number /= len(l)
		}
		threads = append(threads, th)
	}
	return threads
}

// someTests are tests of one to three threads of the kit; most of them may be.
func someTests() []api.Test {
	var threads [][]api.Ins
	for n := 1; n <= 5; n++ {
		threads = append(threads, someThreads(40*n, n)...)
	}
	inits := [][]int64{{0, 0}, {1, -1}, {3, 0, 3}, {0, 1}}
	var l []api.Test
	for k := range 2 * len(threads) {
		t := api.Test{Init: inits[k%len(inits)]}
		for n := range 1 + k%3 {
			t.Threads = append(t.Threads, threads[(k*(2*n+1)+n*97)%len(threads)])
		}
		l = append(l, t)
	}
	return l
}

// at is an event's trace, and its place there.
type at struct{ trace, place int }

// expectedJoin is P10.1 of traces that may be joined, pair by pair: of each two events the traces are asked.
func expectedJoin(l []flow.Trace) Exec {
	var where []at
	e := Exec{}
	for n, tr := range l {
		for k, x := range tr.Events {
			where = append(where, at{n, k})
			e.Events = append(e.Events, api.Event{Thread: n, Kind: x.Kind, Loc: x.Loc, Val: x.Val, Acq: x.Acq, Rel: x.Rel, Excl: x.Excl})
		}
		e.Regs = append(e.Regs, []int64{tr.Regs.V[0], tr.Regs.V[1], tr.Regs.V[2], tr.Regs.V[3]})
	}
	pairs := func(of func(tr flow.Trace, i, k int) bool) rel.Rel {
		r := rel.New(len(where))
		for i, a := range where {
			for k, b := range where {
				if a.trace == b.trace && of(l[a.trace], a.place, b.place) {
					r = rel.Put(r, i, k)
				}
			}
		}
		return r
	}
	e.Po = pairs(func(tr flow.Trace, i, k int) bool { return i < k })
	e.Addr = pairs(func(tr flow.Trace, i, k int) bool { return tr.Addr[k]&(1<<i) != 0 })
	e.Data = pairs(func(tr flow.Trace, i, k int) bool { return tr.Data[k]&(1<<i) != 0 })
	e.Ctrl = pairs(func(tr flow.Trace, i, k int) bool { return tr.Ctrl[k]&(1<<i) != 0 })
	e.Rmw = pairs(func(tr flow.Trace, i, k int) bool { return tr.Pair[k] == i })
	return e
}

// same tells whether two executions are; nil and empty lists are the same.
func same(a, b Exec) bool {
	relations := rel.Same(a.Po, b.Po) && rel.Same(a.Addr, b.Addr) && rel.Same(a.Data, b.Data) && rel.Same(a.Ctrl, b.Ctrl) && rel.Same(a.Rmw, b.Rmw)
	return relations && slices.Equal(a.Events, b.Events) && slices.EqualFunc(a.Regs, b.Regs, slices.Equal[[]int64])
}

// isZero tells whether an execution is the zero one; nil and empty lists are the same.
func isZero(e Exec) bool {
	return len(e.Events)+len(e.Po)+len(e.Addr)+len(e.Data)+len(e.Ctrl)+len(e.Rmw)+len(e.Regs) == 0
}

// bare is a trace of n events that hang on nothing.
func bare(n int) flow.Trace {
	tr := flow.Trace{Events: make([]api.Event, n), Addr: make([]uint32, n), Data: make([]uint32, n), Ctrl: make([]uint32, n), Pair: make([]int, n)}
	for k := range n {
		tr.Pair[k] = -1
	}
	return tr
}

// wild is a trace of n events whose sets and pairs are any that may be, and whose events' threads and kinds are no thread's
// and no kind's.
func wild(n, seed int) flow.Trace {
	tr := bare(n)
	number := uint32(seed)
	next := func() uint32 {
		number = number*1664525 + 1013904223
		return number >> 8
	}
	for k := range n {
		ahead := uint32(1)<<k - 1
		tr.Addr[k], tr.Data[k], tr.Ctrl[k] = next()&ahead, next()&ahead, next()&ahead
		tr.Pair[k] = int(next())%(k+1) - 1
		tr.Events[k] = api.Event{Thread: int(next()) - 9, Kind: int(next() % 9), Loc: int(next()) - 5, Val: int64(next()) * -7, Acq: next()%2 == 0, Rel: next()%2 == 0, Excl: next()%2 == 0}
	}
	tr.Regs = regs.File{V: [4]int64{int64(next()), math.MinInt64, -3, int64(next())}, Dep: [4]uint32{next(), 1, 2, 3}}
	tr.Vals, tr.Lucks, tr.More = int(next()), -4, int(next()%4)
	return tr
}

func checkJoin(t *testing.T, l []flow.Trace) {
	t.Helper()
	got, e := Join(l)
	if want := expectedJoin(l); e != api.OK || !same(got, want) {
		t.Fatalf("Join(%+v) is\n%+v, %d, not\n%+v", l, got, e, want)
	}
}

// TestJoinOfThreads: P10.1, of what threads of the kit do, those that ended ahead of their ends, too.
func TestJoinOfThreads(t *testing.T) {
	var traces []flow.Trace
	for n := 1; n <= 8; n++ {
		for k, th := range someThreads(300, n) {
			guesses := []int64{int64(k % 2), 1, 0, 1}
			traces = append(traces, flow.Run(th, 2, guesses[:k%5], []bool{true, k%3 == 0}[:k%3]))
		}
	}
	hanging := 0
	for k := range traces {
		for n := 1; n <= 3; n++ {
			l := []flow.Trace{traces[k], traces[(k*7+3)%len(traces)], traces[(k*13+5)%len(traces)]}[:n]
			checkJoin(t, l)
			if e, _ := Join(l); len(rel.Pairs(e.Addr)) > 0 && len(rel.Pairs(e.Data)) > 0 && len(rel.Pairs(e.Ctrl)) > 0 && len(rel.Pairs(e.Rmw)) > 0 {
				hanging++
			}
		}
	}
	if hanging < 10 {
		t.Errorf("only %d of all that hangs", hanging)
	}
}

// TestJoinOfAnyTraces: P10.1, of traces that no thread has, and of as many as is wished, of 24 events together at most.
func TestJoinOfAnyTraces(t *testing.T) {
	for seed := range 3000 {
		var l []flow.Trace
		left := api.MaxEvents
		for n := range 1 + seed%6 {
			many := (seed/6 + n*5 + seed%7) % (left + 1)
			l = append(l, wild(many, seed*31+n))
			left -= many
		}
		checkJoin(t, l)
	}
	checkJoin(t, nil)
	checkJoin(t, []flow.Trace{{}, {}})
	checkJoin(t, []flow.Trace{wild(24, 4)})
	checkJoin(t, []flow.Trace{{}, wild(23, 5), {}, wild(1, 6), {Regs: regs.File{V: [4]int64{1, 2, 3, 4}}}})
	checkJoin(t, slices.Repeat([]flow.Trace{wild(1, 7)}, 24))
	checkJoin(t, slices.Repeat([]flow.Trace{{}}, 100))
}

// pairsOf writes pairs shortly: 0 to 1, and 2 to 3, are 0, 1, 2, 3.
func pairsOf(n int, l ...int) rel.Rel {
	r := rel.New(n)
	for k := 0; k < len(l); k += 2 {
		r = rel.Put(r, l[k], l[k+1])
	}
	return r
}

// TestJoinByHand: P10.1; a thread's bits and pairs are places within its trace, not among all events.
func TestJoinByHand(t *testing.T) {
	first := flow.Run([]api.Ins{ldr(1, 0), cbz(1, 1), isb(), strAt(1, 1, 0)}, 2, []int64{4}, nil)
	second := flow.Run([]api.Ins{dmb(1), ldxr(2, 1), stxr(3, 2, 1), strAt(3, 2, 1)}, 2, []int64{-1}, []bool{true})
	got, e := Join([]flow.Trace{first, second})
	want := Exec{
		Events: []api.Event{
			{Kind: api.Read, Val: 4}, {Kind: api.Isb}, {Kind: api.Write, Val: 4},
			{Thread: 1, Kind: api.Ld}, {Thread: 1, Kind: api.Read, Loc: 1, Val: -1, Excl: true},
			{Thread: 1, Kind: api.Write, Loc: 1, Val: -1, Excl: true}, {Thread: 1, Kind: api.Write},
		},
		Po:   pairsOf(7, 0, 1, 0, 2, 1, 2, 3, 4, 3, 5, 3, 6, 4, 5, 4, 6, 5, 6),
		Addr: pairsOf(7, 0, 2, 4, 6),
		Data: pairsOf(7, 0, 2, 4, 5),
		Ctrl: pairsOf(7, 0, 1, 0, 2),
		Rmw:  pairsOf(7, 4, 5),
		Regs: [][]int64{{0, 4, 0, 0}, {0, 0, -1, 0}},
	}
	if e != api.OK || !same(got, want) {
		t.Errorf("%+v, %d, not\n%+v", got, e, want)
	}
}

// turned is a trace of three events, of which something was made wrong, or not.
func turned(turn func(tr *flow.Trace)) flow.Trace {
	tr := bare(3)
	turn(&tr)
	return tr
}

// wrongTraces are traces of which one list isn't as long as the others, or that name a place at or behind an event's own.
func wrongTraces() []flow.Trace {
	l := []flow.Trace{
		turned(func(tr *flow.Trace) { tr.Pair = tr.Pair[:2] }),
		turned(func(tr *flow.Trace) { tr.Pair = nil }),
		turned(func(tr *flow.Trace) { tr.Pair = append(tr.Pair, -1) }),
		turned(func(tr *flow.Trace) { tr.Events = tr.Events[:2] }),
		turned(func(tr *flow.Trace) { tr.Events = nil }),
		turned(func(tr *flow.Trace) { tr.Events = append(tr.Events, api.Event{}) }),
		{Pair: []int{-1}},
		{Addr: []uint32{0}},
		{Data: []uint32{0}},
		{Ctrl: []uint32{0}},
	}
	for n := range 3 {
		list := func(tr *flow.Trace) *[]uint32 { return []*[]uint32{&tr.Addr, &tr.Data, &tr.Ctrl}[n] }
		l = append(l,
			turned(func(tr *flow.Trace) { *list(tr) = (*list(tr))[:2] }),
			turned(func(tr *flow.Trace) { *list(tr) = nil }),
			turned(func(tr *flow.Trace) { *list(tr) = append(*list(tr), 0) }),
		)
		for k := range 3 {
			for bit := k; bit < 32; bit++ {
				l = append(l, turned(func(tr *flow.Trace) { (*list(tr))[k] = 1<<k - 1 | 1<<bit }))
			}
		}
	}
	for k := range 3 {
		for _, place := range []int{k, k + 1, 3, 31, 32, 64, math.MaxInt} {
			l = append(l, turned(func(tr *flow.Trace) { tr.Pair[k] = max(k, place) }))
		}
	}
	return l
}

func checkRefused(t *testing.T, want api.Errno, l ...flow.Trace) {
	t.Helper()
	if got, e := Join(l); e != want || !isZero(got) {
		t.Errorf("Join(%+v) is %+v, %d, not %d", l, got, e, want)
	}
}

// TestJoinOfWrongTraces: P10.1; wherever the wrong one stands; what would be ahead of it among all events doesn't help; and
// too many events are told first.
func TestJoinOfWrongTraces(t *testing.T) {
	for _, wrong := range wrongTraces() {
		checkRefused(t, api.ErrForm, wrong)
		checkRefused(t, api.ErrForm, wrong, bare(3))
		checkRefused(t, api.ErrForm, bare(20), wrong)
		checkRefused(t, api.ErrForm, bare(2), flow.Trace{}, wrong, bare(1))
		checkRefused(t, api.ErrFull, wrong, bare(25))
		checkRefused(t, api.ErrFull, bare(25), wrong)
	}
}

// TestJoinOfTooMany: P10.1; 24 events are the most, of all traces together.
func TestJoinOfTooMany(t *testing.T) {
	checkJoin(t, []flow.Trace{bare(24)})
	checkJoin(t, []flow.Trace{bare(8), bare(8), bare(8)})
	checkRefused(t, api.ErrFull, bare(25))
	checkRefused(t, api.ErrFull, bare(33))
	checkRefused(t, api.ErrFull, bare(1000))
	checkRefused(t, api.ErrFull, bare(12), bare(13))
	checkRefused(t, api.ErrFull, bare(24), flow.Trace{}, bare(1))
	checkRefused(t, api.ErrFull, slices.Repeat([]flow.Trace{bare(1)}, 25)...)
	checkRefused(t, api.ErrFull, flow.Trace{Events: make([]api.Event, 25)})
	checkRefused(t, api.ErrForm, flow.Trace{Events: make([]api.Event, 24)})
}

// TestNoPair: P10.1; a pair below 0 names no place.
func TestNoPair(t *testing.T) {
	for _, place := range []int{-1, -2, -32, math.MinInt} {
		got, e := Join([]flow.Trace{bare(1), turned(func(tr *flow.Trace) { tr.Pair[2] = place })})
		if e != api.OK || len(rel.Pairs(got.Rmw)) != 0 || len(got.Rmw) != 4 {
			t.Errorf("%d: %v, %d", place, got.Rmw, e)
		}
	}
}

// expectedAll is P10.2 of a test that may be: each way by its number, whose lowest digit is the last thread's.
func expectedAll(u api.Test) ([]Exec, api.Errno) {
	read, e := vals.Of(u)
	if e != api.OK {
		return nil, e
	}
	many := 1
	var lists [][]flow.Trace
	for _, th := range u.Threads {
		lists = append(lists, vals.Traces(th, len(u.Init), read))
		many *= len(lists[len(lists)-1])
	}
	var l []Exec
	for number := range many {
		way := make([]flow.Trace, len(lists))
		rest := number
		for k := len(lists) - 1; k >= 0; k-- {
			way[k] = lists[k][rest%len(lists[k])]
			rest /= len(lists[k])
		}
		l = append(l, expectedJoin(way))
	}
	return l, api.OK
}

// TestAll: P10.2, of tests of the kit, and of those among them that may not be, or of which too many values may be read.
func TestAll(t *testing.T) {
	good, full, wrong := 0, 0, 0
	for _, u := range someTests() {
		got, e := All(u)
		want, wantE := expectedAll(u)
		if e != wantE || !slices.EqualFunc(got, want, same) {
			t.Fatalf("All(%v) is\n%+v, %d, not\n%+v, %d", u, got, e, want, wantE)
		}
		switch {
		case e == api.OK && len(got) > 1 && len(u.Threads) > 1:
			good++
		case e == api.ErrFull:
			full++
		case e != api.OK:
			wrong++
		}
	}
	if good < 100 || full < 10 || wrong < 10 {
		t.Errorf("only %d good tests, %d full ones, %d wrong ones", good, full, wrong)
	}
}

// registersOf writes all registers 1, 2 of each thread as a text, execution by execution.
func registersOf(l []Exec) string {
	s := ""
	for _, e := range l {
		for _, r := range e.Regs {
			s += fmt.Sprint(r[1], r[2], ",")
		}
		s += ";"
	}
	return s
}

// TestTurn: P10.2; the last thread's next is first; and a thread that has but one trace turns nothing.
func TestTurn(t *testing.T) {
	one := []api.Ins{ldr(1, 0)}
	pair := []api.Ins{ldxr(1, 0), stxr(2, 1, 0)}
	for k, c := range []struct {
		init    []int64
		threads [][]api.Ins
		want    string
	}{
		{[]int64{0}, [][]api.Ins{{isb()}}, "0 0,;"},
		{[]int64{9, 4}, [][]api.Ins{one}, "4 0,;9 0,;"},
		{[]int64{9, 4}, [][]api.Ins{one, one}, "4 0,4 0,;4 0,9 0,;9 0,4 0,;9 0,9 0,;"},
		{[]int64{9, 4}, [][]api.Ins{one, {mov(2, 7)}, one}, "4 0,0 7,4 0,;4 0,0 7,9 0,;9 0,0 7,4 0,;9 0,0 7,9 0,;"},
		{[]int64{9, 4}, [][]api.Ins{one, one, one}, "4 0,4 0,4 0,;4 0,4 0,9 0,;4 0,9 0,4 0,;4 0,9 0,9 0,;9 0,4 0,4 0,;9 0,4 0,9 0,;9 0,9 0,4 0,;9 0,9 0,9 0,;"},
		{[]int64{5}, [][]api.Ins{pair, pair}, "5 0,5 0,;5 0,5 1,;5 1,5 0,;5 1,5 1,;"},
		{[]int64{3, 8}, [][]api.Ins{pair, one}, "3 0,3 0,;3 0,8 0,;3 1,3 0,;3 1,8 0,;8 0,3 0,;8 0,8 0,;8 1,3 0,;8 1,8 0,;"},
		{[]int64{3, 8}, [][]api.Ins{one, pair}, "3 0,3 0,;3 0,3 1,;3 0,8 0,;3 0,8 1,;8 0,3 0,;8 0,3 1,;8 0,8 0,;8 0,8 1,;"},
	} {
		if got, e := All(api.Test{Init: c.init, Threads: c.threads}); e != api.OK || registersOf(got) != c.want {
			t.Errorf("%d: %s, %d, not %s", k, registersOf(got), e, c.want)
		}
	}
}

// TestExample: P10.2, the chapter's example.
func TestExample(t *testing.T) {
	got, e := All(api.Test{Init: []int64{7}, Threads: [][]api.Ins{{str(0, 0)}, {str(1, 0)}}})
	want := Exec{
		Events: []api.Event{{Kind: api.Write}, {Thread: 1, Kind: api.Write}},
		Po:     rel.New(2), Addr: rel.New(2), Data: rel.New(2), Ctrl: rel.New(2), Rmw: rel.New(2),
		Regs: [][]int64{{0, 0, 0, 0}, {0, 0, 0, 0}},
	}
	if e != api.OK || len(got) != 1 || !same(got[0], want) {
		t.Error(got, e)
	}
}

// TestAllOfWrongTests: P10.2; vals.Of's error, and nothing beside it.
func TestAllOfWrongTests(t *testing.T) {
	one := []api.Ins{isb()}
	next := []api.Ins{mov(0, 1), ldr(1, 0), {Op: api.OpAdd, D: 1, A: 1}, str(1, 0), str(1, 0), str(1, 0), str(1, 0), str(1, 0)}
	for k, c := range []struct {
		t api.Test
		e api.Errno
	}{
		{api.Test{}, api.ErrArg},
		{api.Test{Init: []int64{0}}, api.ErrArg},
		{api.Test{Threads: [][]api.Ins{one}}, api.ErrArg},
		{api.Test{Init: []int64{0, 0, 0, 0}, Threads: [][]api.Ins{one}}, api.ErrArg},
		{api.Test{Init: []int64{1001}, Threads: [][]api.Ins{one}}, api.ErrArg},
		{api.Test{Init: []int64{0}, Threads: [][]api.Ins{one, one, one, one}}, api.ErrArg},
		{api.Test{Init: []int64{0}, Threads: [][]api.Ins{one, nil}}, api.ErrArg},
		{api.Test{Init: []int64{0}, Threads: [][]api.Ins{slices.Repeat(one, 9)}}, api.ErrArg},
		{api.Test{Init: []int64{0}, Threads: [][]api.Ins{one, {{Op: 15}}}}, api.ErrForm},
		{api.Test{Init: []int64{0}, Threads: [][]api.Ins{{ldr(1, 1)}}}, api.ErrForm},
		{api.Test{Init: []int64{0}, Threads: [][]api.Ins{{cbz(1, 1)}}}, api.ErrForm},
		{api.Test{Init: []int64{0}, Threads: [][]api.Ins{slices.Repeat([]api.Ins{ldr(1, 0)}, 5)}}, api.ErrFull},
		{api.Test{Init: []int64{0}, Threads: [][]api.Ins{slices.Repeat([]api.Ins{str(1, 0)}, 4), slices.Repeat([]api.Ins{str(1, 0)}, 3)}}, api.ErrFull},
		{api.Test{Init: []int64{0, 3}, Threads: [][]api.Ins{next}}, api.ErrFull},
	} {
		if _, e := vals.Of(c.t); e != c.e {
			t.Fatalf("%d: vals.Of tells %d", k, e)
		}
		if got, e := All(c.t); len(got) != 0 || e != c.e {
			t.Errorf("%d: %d executions, %d, not %d", k, len(got), e, c.e)
		}
	}
}

// TestGreatest: P10.2; eight values, four loads and two lucks are the most ways that a test can have; and three threads of
// eight instructions have the most events.
func TestGreatest(t *testing.T) {
	th := []api.Ins{ldr(0, 0), ldxr(1, 0), eor(1, 1, 0), stxr(2, 1, 0)}
	got, e := All(api.Test{Init: []int64{1, 2, 4}, Threads: [][]api.Ins{th, th}})
	if e != api.OK || len(got) != 8*8*8*8*2*2 {
		t.Fatal(len(got), e)
	}
	for n, x := range got {
		a, b := n/128, n%128
		want := [][]int64{{int64(a >> 4), int64(a>>4 ^ a>>1&7), int64(a & 1), 0}, {int64(b >> 4), int64(b>>4 ^ b>>1&7), int64(b & 1), 0}}
		if !slices.EqualFunc(x.Regs, want, slices.Equal[[]int64]) {
			t.Fatalf("%d: %v, not %v", n, x.Regs, want)
		}
	}
	long := slices.Concat(slices.Repeat([]api.Ins{isb()}, 6), []api.Ins{ldr(1, 0), str(1, 1)})
	u := api.Test{Init: []int64{0, 1}, Threads: [][]api.Ins{long, long, long}}
	if got, e := All(u); e != api.OK || len(got) != 8 || len(got[7].Events) != 24 || got[7].Data[22] != 1<<23 {
		t.Error(len(got), e)
	}
}

// TestTooManyWays: P10.2; 20000 ways are the most. No test has as many, so that it is asked of lists of traces.
func TestTooManyWays(t *testing.T) {
	for k, c := range []struct {
		lengths []int
		many    int
		e       api.Errno
	}{
		{nil, 1, api.OK},
		{[]int{5}, 5, api.OK},
		{[]int{7, 0}, 0, api.OK},
		{[]int{20000}, 20000, api.OK},
		{[]int{100, 200}, 20000, api.OK},
		{[]int{20001}, 0, api.ErrFull},
		{[]int{3, 59, 113}, 0, api.ErrFull},
		{[]int{4096, 4096, 4096}, 0, api.ErrFull},
	} {
		var lists [][]flow.Trace
		for _, n := range c.lengths {
			lists = append(lists, make([]flow.Trace, n))
		}
		if got, e := together(lists); len(got) != c.many || e != c.e {
			t.Errorf("%d: %d executions, %d, not %d, %d", k, len(got), e, c.many, c.e)
		}
	}
	if got, e := together([][]flow.Trace{{bare(1), bare(13)}, {bare(12)}}); len(got) != 0 || e != api.ErrFull {
		t.Errorf("%d executions of too many events, %d", len(got), e)
	}
}

// TestWaysAreApart: P10.2; ways that begin alike don't overwrite one another, of however many lists.
func TestWaysAreApart(t *testing.T) {
	for many := range 8 {
		lists := slices.Repeat([][]flow.Trace{{{Vals: 0}, {Vals: 1}}}, many)
		got := ways(lists)
		if len(got) != 1<<many {
			t.Fatalf("%d lists: %d ways", many, len(got))
		}
		for number, way := range got {
			if len(way) != many {
				t.Fatalf("%d lists: a way of %d", many, len(way))
			}
			for k, tr := range way {
				if tr.Vals != number>>(many-1-k)&1 {
					t.Fatalf("%d lists: the way %d takes %d at %d", many, number, tr.Vals, k)
				}
			}
		}
	}
}

// someExecs are executions of the kit, and others, of which events are any.
func someExecs() []Exec {
	var l []Exec
	for _, u := range someTests() {
		some, _ := All(u)
		for k := 0; k < len(some); k += 1 + len(some)/3 {
			l = append(l, some[k])
		}
	}
	for n := range 33 {
		e := Exec{}
		for k := range n {
			e.Events = append(e.Events, api.Event{Thread: k*k%7 - 2, Kind: k * 5 % 8, Loc: k%4 - 1, Val: int64(k % 3), Acq: k%2 == 0, Rel: k%3 == 0, Excl: k%5 == 0})
		}
		l = append(l, e)
	}
	return l
}

// TestMask: P10.3; what is asked is asked of the events as they are.
func TestMask(t *testing.T) {
	for _, e := range someExecs() {
		for k, of := range []func(x api.Event) bool{
			func(x api.Event) bool { return true },
			func(x api.Event) bool { return false },
			func(x api.Event) bool { return x.Kind == api.Write && x.Loc == 1 },
			func(x api.Event) bool { return x.Thread == 1 && x.Val != 0 },
			func(x api.Event) bool { return x.Acq || x.Rel != x.Excl },
		} {
			var want uint32
			for i := len(e.Events) - 1; i >= 0; i-- {
				want *= 2
				if of(e.Events[i]) {
					want++
				}
			}
			if got := Mask(e, of); got != want {
				t.Fatalf("%d: Mask of %v is %b, not %b", k, e.Events, got, want)
			}
		}
	}
}

// TestMaskOfWhatPanics: P10.3, and P1; of what can't be asked nothing is true.
func TestMaskOfWhatPanics(t *testing.T) {
	e := Exec{Events: []api.Event{{Val: 1}, {Val: 0}, {Val: 2}}}
	if got := Mask(e, nil); got != 0 {
		t.Errorf("%b", got)
	}
	if got := Mask(e, func(x api.Event) bool { return 2/x.Val > 0 }); got != 5 {
		t.Errorf("%b", got)
	}
	if got := Mask(e, func(x api.Event) bool { panic("none") }); got != 0 {
		t.Errorf("%b", got)
	}
	if got := Mask(Exec{}, func(x api.Event) bool { return true }); got != 0 {
		t.Errorf("%b", got)
	}
}

// TestKinds: P10.3; one kind, many, none, some twice, and such as there are none of.
func TestKinds(t *testing.T) {
	for _, e := range someExecs() {
		for _, kinds := range [][]int{nil, {api.Read}, {api.Write}, {api.Sy}, {api.Isb, api.Read}, {api.Write, api.Read, api.Write}, {0}, {-1, 7, 99}, {7, api.St, api.Ld}, {1, 2, 3, 4, 5, 6}} {
			var want uint32
			for i, x := range e.Events {
				for _, kind := range kinds {
					if x.Kind == kind {
						want |= 1 << i
					}
				}
			}
			if got := Kinds(e, kinds...); got != want {
				t.Fatalf("Kinds(%v, %v) is %b, not %b", e.Events, kinds, got, want)
			}
		}
	}
}

// TestAlikeAndInner: P10.3; of each two events; none is with itself.
func TestAlikeAndInner(t *testing.T) {
	for _, e := range someExecs() {
		n := len(e.Events)
		alike, inner := rel.New(n), rel.New(n)
		for i, a := range e.Events {
			for k, b := range e.Events {
				memory := (a.Kind == 1 || a.Kind == 2) && (b.Kind == 1 || b.Kind == 2)
				if i != k && memory && a.Loc == b.Loc {
					alike = rel.Put(alike, i, k)
				}
				if i != k && a.Thread == b.Thread {
					inner = rel.Put(inner, i, k)
				}
			}
		}
		if got := Alike(e); !rel.Same(got, alike) {
			t.Fatalf("Alike(%v) is %b, not %b", e.Events, got, alike)
		}
		if got := Inner(e); !rel.Same(got, inner) {
			t.Fatalf("Inner(%v) is %b, not %b", e.Events, got, inner)
		}
	}
}

// TestAlikeAndInnerByHand: P10.3; a barrier's Loc is no place; events that look the same are unlike ones all the same.
func TestAlikeAndInnerByHand(t *testing.T) {
	e := Exec{Events: []api.Event{{Kind: api.Read}, {Kind: api.Sy}, {Thread: 1, Kind: api.Write}, {Kind: api.Read}, {Thread: 1, Kind: api.Read, Loc: 1}, {Thread: 1, Kind: api.Isb, Loc: 1}}}
	if got, want := Alike(e), pairsOf(6, 0, 2, 0, 3, 2, 0, 2, 3, 3, 0, 3, 2); !rel.Same(got, want) {
		t.Error(got, want)
	}
	if got, want := Inner(e), pairsOf(6, 0, 1, 0, 3, 1, 0, 1, 3, 3, 0, 3, 1, 2, 4, 2, 5, 4, 2, 4, 5, 5, 2, 5, 4); !rel.Same(got, want) {
		t.Error(got, want)
	}
}

// TestTooManyEvents: P10.3, and P1; there are 32 bits, and a relation of more things stands for that of none.
func TestTooManyEvents(t *testing.T) {
	e := Exec{Events: slices.Repeat([]api.Event{{Kind: api.Read}}, 33)}
	if got := Mask(e, func(x api.Event) bool { return true }); got != math.MaxUint32 {
		t.Errorf("%b", got)
	}
	if got := Kinds(e, api.Read); got != math.MaxUint32 {
		t.Errorf("%b", got)
	}
	if a, i := Alike(e), Inner(e); len(a) != 0 || len(i) != 0 {
		t.Error(a, i)
	}
	e.Events = e.Events[:32]
	if a, i := Alike(e), Inner(e); len(rel.Pairs(a)) != 32*31 || !rel.Same(a, i) {
		t.Error(a, i)
	}
}

// TestWhatFollows: P10.4; and exclusive stores' loads are exclusive ones of their place.
func TestWhatFollows(t *testing.T) {
	hanging := 0
	for _, u := range someTests() {
		l, _ := All(u)
		for _, e := range l {
			if !rel.Acyclic(e.Po) || !rel.Same(e.Po, rel.Plus(e.Po)) {
				t.Fatalf("%v: Po is %b", u, e.Po)
			}
			for _, r := range []rel.Rel{e.Addr, e.Data, e.Ctrl, e.Rmw} {
				for _, p := range rel.Pairs(r) {
					hanging++
					if e.Events[p[0]].Kind != api.Read || !rel.Has(e.Po, p[0], p[1]) {
						t.Fatalf("%v: %d to %d of %v", u, p[0], p[1], e.Events)
					}
				}
			}
			for _, p := range rel.Pairs(e.Rmw) {
				if a, b := e.Events[p[0]], e.Events[p[1]]; !a.Excl || !b.Excl || b.Kind != api.Write || a.Loc != b.Loc {
					t.Fatalf("%v: Rmw has %v to %v", u, a, b)
				}
			}
		}
	}
	if hanging < 1000 {
		t.Errorf("only %d pairs", hanging)
	}
}

// spoil overwrites all memory of an execution.
func spoil(e Exec) {
	for k := range e.Events {
		e.Events[k] = api.Event{Thread: 91, Kind: 92, Loc: 93, Val: 94}
	}
	for _, r := range []rel.Rel{e.Po, e.Addr, e.Data, e.Ctrl, e.Rmw} {
		for k := range r {
			r[k] = 0x5a5a5a5a
		}
	}
	for _, r := range e.Regs {
		for k := range r {
			r[k] = 95
		}
	}
}

// TestNothingIsShared: no two of All's executions share memory, nor do two calls, nor what is handed in.
func TestNothingIsShared(t *testing.T) {
	th := []api.Ins{ldxr(1, 0), cbz(1, 1), stxr(2, 1, 0), strAt(2, 1, 1)}
	u := api.Test{Init: []int64{0, 3}, Threads: [][]api.Ins{th, {ldr(1, 0), str(1, 1)}, {isb()}}}
	want, _ := expectedAll(u)
	first, _ := All(u)
	second, _ := All(u)
	for n := range first {
		if !same(first[n], want[n]) {
			t.Fatalf("%d shares memory with one ahead of it", n)
		}
		spoil(first[n])
	}
	if !slices.EqualFunc(second, want, same) {
		t.Error("two calls share memory")
	}
	if !slices.Equal(u.Init, []int64{0, 3}) || !slices.Equal(th, []api.Ins{ldxr(1, 0), cbz(1, 1), stxr(2, 1, 0), strAt(2, 1, 1)}) {
		t.Error("changed:", u)
	}
	if _, _, e := test.Check(u); e != api.OK {
		t.Error(e)
	}
}

// TestHandedInStays: traces, and the events of an execution, stay as they are, and so does what was told of them.
func TestHandedInStays(t *testing.T) {
	l := []flow.Trace{wild(5, 1), wild(4, 2)}
	l = append(l, l[0])
	want := expectedJoin(l)
	got, _ := Join(l)
	if !same(expectedJoin([]flow.Trace{wild(5, 1), wild(4, 2), wild(5, 1)}), expectedJoin(l)) || l[0].Events[1].Thread != wild(5, 1).Events[1].Thread {
		t.Error("traces were changed")
	}
	alike, inner := Alike(got), Inner(got)
	spoil(Exec{Po: alike, Addr: inner})
	if !same(got, want) {
		t.Error("an execution was changed")
	}
	spoil(Exec{Events: got.Events[:5], Regs: got.Regs[:1]})
	if !slices.Equal(got.Events[5:], want.Events[5:]) || !slices.EqualFunc(got.Regs[1:], want.Regs[1:], slices.Equal[[]int64]) {
		t.Error("registers of one trace, told twice, share memory")
	}
	again, _ := Join(l)
	if !same(again, want) {
		t.Error("traces share memory with what was told of them")
	}
	for k := range l[0].Events {
		l[0].Events[k], l[0].Addr[k], l[0].Data[k], l[0].Ctrl[k], l[0].Pair[k] = api.Event{}, 0, 0, 0, -1
	}
	if !same(again, want) {
		t.Error("what was told shares memory with traces")
	}
}
