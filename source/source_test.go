package source

import (
	"math"
	"slices"
	"testing"

	"cupola/api"
	"cupola/exec"
	"cupola/rel"
)

// read and write are events of memory, shortly.
func read(loc int, val int64) api.Event  { return api.Event{Kind: api.Read, Loc: loc, Val: val} }
func write(loc int, val int64) api.Event { return api.Event{Kind: api.Write, Loc: loc, Val: val} }

// of is an execution of some events alone.
func of(l ...api.Event) exec.Exec { return exec.Exec{Events: l} }

// kit is events of few places and values, so that few of them have much to do with each other; some are of places and
// kinds that there are none of, and some are barriers that look like reads or writes but for their kind.
func kit() []api.Event {
	return []api.Event{
		write(0, 1), read(0, 1), read(0, 0), write(0, 0), read(1, 1), write(1, 1),
		{Thread: 2, Kind: api.Write, Loc: 0, Val: 1, Rel: true}, {Thread: 1, Kind: api.Read, Loc: 0, Val: 1, Acq: true, Excl: true},
		{Kind: api.Sy}, {Kind: api.Isb, Val: 1}, read(2, 0), write(2, 0), read(-1, 1), write(-1, 1), {Kind: 0}, {Kind: 7, Val: 1}, {Kind: -1, Val: 1},
	}
}

// inits are memories of the kit: of no places, of one, of two, of three; with and without what is read there.
func inits() [][]int64 { return [][]int64{nil, {0}, {1}, {0, 1}, {1, 1, 0}, {7, 7, 7}} }

// someExecs are all of up to two events of the kit, and some of three and of four.
func someExecs() []exec.Exec {
	l := []exec.Exec{of()}
	k := kit()
	for _, x := range k {
		l = append(l, of(x))
		for _, y := range k {
			l = append(l, of(x, y))
		}
	}
	for n := range 400 {
		number := (n + 1) * 618033989
		var events []api.Event
		for range 3 + n%2 {
			events = append(events, k[number%len(k)])
			number /= len(k)
		}
		// The first ones of the kit have most to do with each other.
		l = append(l, of(events...), of(k[n%8], k[n/8%8], k[n*7%6], k[n*5%12]))
	}
	return l
}

// isGiven is P11.1's first sentence, of a number and a read: whether it may be read from there.
func isGiven(e exec.Exec, init []int64, r, from int) bool {
	x := e.Events[r]
	for loc, v := range init {
		if from == -1 && loc == x.Loc && v == x.Val {
			return true
		}
	}
	for k, y := range e.Events {
		if from == k && y.Kind == 2 && y.Loc == x.Loc && y.Val == x.Val {
			return true
		}
	}
	return false
}

// isWay tells of a list of numbers, as many as events, whether it gives each what it may.
func isWay(e exec.Exec, init []int64, from []int) bool {
	for k, x := range e.Events {
		if x.Kind == 1 && !isGiven(e, init, k, from[k]) || x.Kind != 1 && from[k] != -2 {
			return false
		}
	}
	return true
}

// lists are all lists of n numbers from low to high, in turn: at the first place at which two are unlike the lower is first.
func lists(n, low, high int) [][]int {
	all := [][]int{{}}
	for range n {
		var longer [][]int
		for _, l := range all {
			for v := low; v <= high; v++ {
				longer = append(longer, append(slices.Clone(l), v))
			}
		}
		all = longer
	}
	return all
}

// alike tells whether lists of numbers are the same ones, in turn.
func alike(a, b [][]int) bool { return slices.EqualFunc(a, b, slices.Equal[[]int]) }

// TestMay: P11.1; of each event, and of such as there are none of, each number by itself.
func TestMay(t *testing.T) {
	for _, e := range someExecs() {
		for _, init := range inits() {
			for _, r := range []int{math.MinInt, -3, -2, -1, 0, 1, 2, 3, 4, 5, 24, 32, math.MaxInt} {
				var want []int
				for from := -3; from < 6; from++ {
					if r >= 0 && r < len(e.Events) && e.Events[r].Kind == 1 && isGiven(e, init, r, from) {
						want = append(want, from)
					}
				}
				if got := May(e, init, r); !slices.Equal(got, want) {
					t.Fatalf("May(%v, %v, %d) is %v, not %v", e.Events, init, r, got, want)
				}
			}
		}
	}
}

// TestMayByHand: P11.1, and the chapter's example; writes behind the read count, whatever their threads, and a write of a
// place that init hasn't is read all the same.
func TestMayByHand(t *testing.T) {
	e := of(write(0, 0), read(0, 0))
	e.Events = append(e.Events, write(0, 0), write(0, 1), write(1, 0), api.Event{Thread: 2, Kind: api.Write, Rel: true, Excl: true}, api.Event{Kind: api.Sy}, read(0, 0), read(3, 9), write(3, 9), read(math.MinInt, math.MinInt64), write(math.MinInt, math.MinInt64), read(math.MaxInt, math.MaxInt64))
	for k, c := range []struct {
		init []int64
		r    int
		want []int
	}{
		{[]int64{0}, 1, []int{Init, 0, 2, 5}},
		{[]int64{0, 0}, 7, []int{-1, 0, 2, 5}},
		{[]int64{1, 0}, 1, []int{0, 2, 5}},
		{nil, 1, []int{0, 2, 5}},
		{[]int64{0}, 0, nil},
		{[]int64{0}, 6, nil},
		{[]int64{0}, 8, []int{9}},
		{[]int64{9, 9, 9}, 8, []int{9}},
		{[]int64{9, 9, 9, 9}, 8, []int{-1, 9}},
		{[]int64{0}, 10, []int{11}},
		{[]int64{math.MaxInt64}, 12, nil},
		{[]int64{0}, 13, nil},
		{[]int64{0}, -1, nil},
		{[]int64{0}, -2, nil},
	} {
		if got := May(e, c.init, c.r); !slices.Equal(got, c.want) {
			t.Errorf("%d: %v, not %v", k, got, c.want)
		}
	}
	if got := May(of(write(0, 0), read(0, 0)), []int64{0}, 1); !slices.Equal(got, []int{Init, 0}) {
		t.Error("the example:", got)
	}
	if Init != -1 || Nope != -2 {
		t.Error(Init, Nope)
	}
}

// TestAllAndFits: P11.1, P11.2; of all lists of numbers those fit that All tells, in turn.
func TestAllAndFits(t *testing.T) {
	ways := 0
	for n, e := range someExecs() {
		init := inits()[n%6]
		var want [][]int
		for _, from := range lists(len(e.Events), -3, len(e.Events)) {
			way := isWay(e, init, from)
			if way {
				want = append(want, from)
			}
			if got := Fits(e, init, from); got != way {
				t.Fatalf("Fits(%v, %v, %v) is %t", e.Events, init, from, got)
			}
		}
		ways += len(want)
		if got := All(e, init); !alike(got, want) {
			t.Fatalf("All(%v, %v) is %v, not %v", e.Events, init, got, want)
		}
	}
	if ways < 500 {
		t.Errorf("only %d ways", ways)
	}
}

// TestAllByHand: P11.1; the last read's next comes first, and reads come in turn, others between them or not.
func TestAllByHand(t *testing.T) {
	e := of(read(0, 0), api.Event{Kind: api.Isb}, write(0, 0), read(1, 5), read(0, 0), write(1, 5))
	for k, c := range []struct {
		e    exec.Exec
		init []int64
		want [][]int
	}{
		{e, []int64{0, 5}, [][]int{
			{-1, -2, -2, -1, -1, -2}, {-1, -2, -2, -1, 2, -2}, {-1, -2, -2, 5, -1, -2}, {-1, -2, -2, 5, 2, -2},
			{2, -2, -2, -1, -1, -2}, {2, -2, -2, -1, 2, -2}, {2, -2, -2, 5, -1, -2}, {2, -2, -2, 5, 2, -2},
		}},
		{e, []int64{1, 5}, [][]int{{2, -2, -2, -1, 2, -2}, {2, -2, -2, 5, 2, -2}}},
		{e, []int64{0}, [][]int{{-1, -2, -2, 5, -1, -2}, {-1, -2, -2, 5, 2, -2}, {2, -2, -2, 5, -1, -2}, {2, -2, -2, 5, 2, -2}}},
		{e, nil, [][]int{{2, -2, -2, 5, 2, -2}}},
		{of(), []int64{0}, [][]int{{}}},
		{of(), nil, [][]int{{}}},
		{of(write(0, 1), api.Event{Kind: api.Ld}, api.Event{Kind: 9}), nil, [][]int{{-2, -2, -2}}},
		{of(read(0, 1)), []int64{1}, [][]int{{-1}}},
		{of(read(0, 1)), []int64{0}, nil},
		{of(read(1, 0)), []int64{0}, nil},
		{of(read(-1, 0)), []int64{0}, nil},
		{of(write(0, 1), read(0, 1), read(0, 2)), []int64{0}, nil},
		{of(read(0, 2), write(0, 1), read(0, 1)), []int64{1}, nil},
	} {
		if got := All(c.e, c.init); !alike(got, c.want) {
			t.Errorf("%d: %v, not %v", k, got, c.want)
		}
	}
}

// wide is an execution in which the read k may read from sizes[k] writes, and from nothing else.
func wide(sizes ...int) exec.Exec {
	var e exec.Exec
	for k, size := range sizes {
		e.Events = append(e.Events, slices.Repeat([]api.Event{write(k, 3)}, size)...)
		e.Events = append(e.Events, read(k, 3))
	}
	return e
}

// TestTooManyWays: P11.1; 20000 ways are the most, also where their number is beyond any type's end, and would come round to
// 0 there, or to 2747, as that of the ten sizes does; and of a read that has none there is nothing, wherever it stands.
func TestTooManyWays(t *testing.T) {
	for k, c := range []struct {
		e    exec.Exec
		init []int64
		many int
	}{
		{wide(20001), nil, 0},
		{wide(20000), []int64{3}, 0},
		{wide(100, 200), nil, 20000},
		{wide(99, 200), []int64{3}, 20000},
		{wide(200, 99), []int64{0, 3}, 20000},
		{wide(3, 59, 113), nil, 0},
		{wide(1, 59, 113, 3, 1), nil, 0},
		{wide(2, 2, 2, 2, 2, 5, 5, 5, 5), nil, 20000},
		{wide(5, 5, 2, 1, 5, 2, 2, 2, 1, 2, 5), nil, 20000},
		{wide(2, 2, 2, 2, 2, 2, 2, 2, 2, 2, 2, 2, 2, 2), nil, 16384},
		{wide(2, 2, 2, 2, 2, 2, 2, 2, 2, 2, 2, 2, 2, 2, 2), nil, 0},
		{wide(slices.Repeat([]int{2}, 64)...), nil, 0},
		{wide(slices.Repeat([]int{4}, 32)...), nil, 0},
		{wide(slices.Repeat([]int{3}, 200)...), nil, 0},
		{wide(5, 23, 103, 181, 181, 227, 239, 281, 431, 709), nil, 0},
		{wide(append(slices.Repeat([]int{2}, 70), 0)...), nil, 0},
		{wide(append([]int{0}, slices.Repeat([]int{2}, 70)...)...), nil, 0},
		{of(slices.Repeat([]api.Event{read(0, 3)}, 3000)...), []int64{3}, 1},
		{of(slices.Repeat([]api.Event{write(0, 3)}, 3000)...), []int64{3}, 1},
	} {
		got := All(c.e, c.init)
		if len(got) != c.many {
			t.Errorf("%d: %d ways, not %d", k, len(got), c.many)
		}
		if !slices.IsSortedFunc(got, slices.Compare[[]int]) {
			t.Errorf("%d: not in turn", k)
		}
	}
}

// TestFitsByHand: P11.2; lists too short, too long, and of wrong numbers.
func TestFitsByHand(t *testing.T) {
	e := of(write(0, 1), read(0, 1), api.Event{Kind: api.Sy}, read(1, 5), write(0, 1), write(0, 2), read(0, 1))
	init := []int64{0, 5}
	for k, c := range []struct {
		from []int
		fits bool
	}{
		{[]int{-2, 0, -2, -1, -2, -2, 4}, true},
		{[]int{-2, 4, -2, -1, -2, -2, 4}, true},
		{[]int{-2, -1, -2, -1, -2, -2, 4}, false},
		{[]int{-2, -2, -2, -1, -2, -2, 4}, false},
		{[]int{-2, 0, -2, -2, -2, -2, 4}, false},
		{[]int{-2, 5, -2, -1, -2, -2, 4}, false},
		{[]int{-2, 1, -2, -1, -2, -2, 4}, false},
		{[]int{-2, 6, -2, -1, -2, -2, 4}, false},
		{[]int{-2, 0, -2, 4, -2, -2, 4}, false},
		{[]int{-1, 0, -2, -1, -2, -2, 4}, false},
		{[]int{0, 0, -2, -1, -2, -2, 4}, false},
		{[]int{-2, 0, -1, -1, -2, -2, 4}, false},
		{[]int{-2, 0, -3, -1, -2, -2, 4}, false},
		{[]int{-2, 0, -2, -1, -2, -2, 7}, false},
		{[]int{-2, 0, -2, -1, -2, -2, math.MaxInt}, false},
		{[]int{-2, 0, -2, -1, -2, -2, math.MinInt}, false},
		{[]int{-2, 0, -2, -1, -2, -2}, false},
		{[]int{-2, 0, -2, -1, -2, -2, 4, -2}, false},
		{nil, false},
	} {
		if got := Fits(e, init, c.from); got != c.fits {
			t.Errorf("%d: %t", k, got)
		}
	}
	if !Fits(of(), nil, nil) || !Fits(of(), []int64{1}, []int{}) || Fits(of(), nil, []int{-2}) {
		t.Error("of no events")
	}
	if Fits(of(read(0, 1)), nil, []int{-1}) || !Fits(of(read(0, 1)), []int64{1}, []int{-1}) || Fits(of(read(-1, 1)), []int64{1}, []int{-1}) {
		t.Error("of memory as it was at first")
	}
}

// TestRf: P11.2; any events, and any numbers, of lists of any length: what may be read plays no part.
func TestRf(t *testing.T) {
	for events := range 34 {
		var e exec.Exec
		for k := range events {
			e.Events = append(e.Events, kit()[k*k%17])
		}
		for length := range 40 {
			var from []int
			for k := range length {
				from = append(from, (k*7+length*5+events)%(events+6)-3)
			}
			want := rel.New(events)
			for k := range events {
				for i := range events {
					if k < length && from[k] == i {
						want = rel.Put(want, i, k)
					}
				}
			}
			if got := Rf(e, from); !rel.Same(got, want) || len(got) != len(want) {
				t.Fatalf("Rf of %d events, %v, is %v, not %v", events, from, got, want)
			}
		}
	}
}

// TestRfByHand: P11.2; events that are none, an event with itself, many reads of one write.
func TestRfByHand(t *testing.T) {
	e := of(write(0, 1), read(0, 1), api.Event{Kind: api.Sy}, read(0, 1))
	for k, c := range []struct {
		from []int
		want rel.Rel
	}{
		{nil, rel.Rel{0, 0, 0, 0}},
		{[]int{-2, 0, -2, 0}, rel.Rel{10, 0, 0, 0}},
		{[]int{-2, 0}, rel.Rel{2, 0, 0, 0}},
		{[]int{-2, -1, -2, 0, 0, 1, 2}, rel.Rel{8, 0, 0, 0}},
		{[]int{3, 2, 1, 1}, rel.Rel{0, 12, 2, 1}},
		{[]int{0, 1, 2, 3}, rel.Rel{1, 2, 4, 8}},
		{[]int{4, 32, math.MaxInt, math.MinInt}, rel.Rel{0, 0, 0, 0}},
		{[]int{-3, -1, 1 << 32, 1<<32 + 1}, rel.Rel{0, 0, 0, 0}},
	} {
		if got := Rf(e, c.from); !slices.Equal(got, c.want) {
			t.Errorf("%d: %v, not %v", k, got, c.want)
		}
	}
	if got := Rf(of(), []int{0, 1}); len(got) != 0 {
		t.Error("of no events:", got)
	}
	greatest := of(slices.Repeat([]api.Event{write(0, 0)}, 32)...)
	if got := Rf(greatest, slices.Repeat([]int{31}, 40)); len(got) != 32 || got[31] != math.MaxUint32 || len(rel.Pairs(got)) != 32 {
		t.Error("of 32 events:", got)
	}
	greatest.Events = append(greatest.Events, write(0, 0))
	if got := Rf(greatest, slices.Repeat([]int{31}, 40)); len(got) != 0 {
		t.Error("of too many events:", got)
	}
}

// realExecs are executions of tests: two and three threads that read and write two places, with branches and exclusive stores.
func realExecs(t *testing.T) ([]exec.Exec, [][]int64) {
	ldr := func(d, loc int) api.Ins { return api.Ins{Op: api.OpLdr, D: d, A: -1, Loc: loc} }
	str := func(b, loc int) api.Ins { return api.Ins{Op: api.OpStr, B: b, A: -1, Loc: loc} }
	one := api.Ins{Op: api.OpMov, D: 3, Imm: 1}
	exclusive := []api.Ins{one, {Op: api.OpLdxr, D: 1, A: -1}, {Op: api.OpStxr, D: 2, A: -1, B: 3}, str(2, 1)}
	var execs []exec.Exec
	var memories [][]int64
	for _, u := range []api.Test{
		{Init: []int64{0, 0}, Threads: [][]api.Ins{{one, str(3, 0), ldr(1, 1)}, {one, str(3, 1), ldr(1, 0)}}},
		{Init: []int64{0, 0}, Threads: [][]api.Ins{{ldr(1, 0), str(1, 1)}, {ldr(1, 1), str(1, 0)}, {ldr(1, 0), ldr(2, 1)}}},
		{Init: []int64{0, 1}, Threads: [][]api.Ins{exclusive, exclusive}},
		{Init: []int64{0, 2}, Threads: [][]api.Ins{{one, str(3, 0), str(3, 0), ldr(1, 0), {Op: api.OpCbz, A: 1, Imm: 1}, str(1, 1)}, {ldr(1, 0), {Op: api.OpDmb}, {Op: api.OpLdr, D: 2, A: 1, Loc: 0}}}},
		{Init: []int64{1, 0, 1}, Threads: [][]api.Ins{{ldr(1, 2), {Op: api.OpStr, A: 1, B: 1}}, {ldr(1, 0), {Op: api.OpAdd, D: 2, A: 1, B: 1}, str(2, 0)}}},
	} {
		l, e := exec.All(u)
		if e != api.OK {
			t.Fatal(e)
		}
		for _, x := range l {
			execs, memories = append(execs, x), append(memories, u.Init)
		}
	}
	return execs, memories
}

// TestWhatFollows: P11.3; of what threads do, and of others: all fit, and are unlike, and are as many as the reads' numbers
// multiplied; to each read one pair leads at most, from a write of its place, that wrote what it reads.
func TestWhatFollows(t *testing.T) {
	execs, memories := realExecs(t)
	for k, e := range someExecs() {
		execs, memories = append(execs, e), append(memories, inits()[k%6])
	}
	pairs, most := 0, 0
	for n, e := range execs {
		all := All(e, memories[n])
		many := 1
		for r, x := range e.Events {
			if x.Kind == api.Read {
				many *= len(May(e, memories[n], r))
			}
		}
		if len(all) != many {
			t.Fatalf("%v: %d ways, not %d", e.Events, len(all), many)
		}
		most = max(most, many)
		for k, from := range all {
			if !Fits(e, memories[n], from) {
				t.Fatalf("%v: %v doesn't fit", e.Events, from)
			}
			if k > 0 && slices.Compare(all[k-1], from) >= 0 {
				t.Fatalf("%v: %v, and then %v", e.Events, all[k-1], from)
			}
			led := map[int]int{}
			for _, p := range rel.Pairs(Rf(e, from)) {
				pairs++
				led[p[1]]++
				if w, r := e.Events[p[0]], e.Events[p[1]]; led[p[1]] > 1 || w.Kind != api.Write || r.Kind != api.Read || w.Loc != r.Loc || w.Val != r.Val {
					t.Fatalf("%v: %v to %v", e.Events, w, r)
				}
			}
		}
	}
	if pairs < 300 || most < 16 {
		t.Errorf("only %d pairs, and %d ways of one", pairs, most)
	}
}

// TestNothingIsShared: no two lists that are told share memory, nor do they with what is handed in, which stays as it is.
func TestNothingIsShared(t *testing.T) {
	events := []api.Event{write(0, 0), read(0, 0), read(0, 0), write(0, 0), write(1, 0)}
	e, init := of(slices.Clone(events)...), []int64{0, 1}
	want := [][]int{}
	for _, a := range []int{-1, 0, 3} {
		for _, b := range []int{-1, 0, 3} {
			want = append(want, []int{-2, a, b, -2, -2})
		}
	}
	first, second := All(e, init), All(e, init)
	for k := range first {
		if !slices.Equal(first[k], want[k]) {
			t.Fatalf("%d: %v, not %v", k, first[k], want[k])
		}
		for i := range first[k] {
			first[k][i] = 77
		}
		first[k] = append(first[k], 78)
	}
	if !alike(second, want) {
		t.Error("two calls share memory")
	}
	may := May(e, init, 1)
	may[0], may[1] = 77, 77
	if got := May(e, init, 1); !slices.Equal(got, []int{-1, 0, 3}) {
		t.Error("May:", got)
	}
	from := slices.Clone(want[4])
	r := Rf(e, from)
	r[0] = 77
	if got := Rf(e, from); !slices.Equal(got, rel.Rel{6, 0, 0, 0, 0}) || !Fits(e, init, from) || !slices.Equal(from, want[4]) {
		t.Error("Rf:", got)
	}
	if !slices.Equal(e.Events, events) || !slices.Equal(init, []int64{0, 1}) {
		t.Error("changed:", e.Events, init)
	}
}
