package flow

import (
	"math"
	"math/big"
	"slices"
	"testing"

	"cupola/api"
	"cupola/regs"
)

// step is an instruction that was come to; of a load and an exclusive store what it gave, and of what has an event its place.
type step struct {
	x     api.Ins
	gave  int64
	event int
}

// past is the steps so far. What registers are, and on what they hang, is looked up backward in it: there are no registers
// that are kept, so that these workings and the program's have little in common.
type past []step

// giver is the place of the last step that gave register n; -1 without one.
func (p past) giver(n int) int {
	for k := len(p) - 1; k >= 0; k-- {
		switch p[k].x.Op {
		case api.OpMov, api.OpAdd, api.OpEor, api.OpAnd, api.OpLdr, api.OpLdar, api.OpLdxr, api.OpStxr:
			if p[k].x.D == n {
				return k
			}
		}
	}
	return -1
}

// number is that of register n.
func (p past) number(n int) int64 {
	k := p.giver(n)
	if k < 0 {
		return 0
	}
	s, ahead := p[k], p[:k]
	switch s.x.Op {
	case api.OpMov:
		return s.x.Imm
	case api.OpAdd:
		return ahead.number(s.x.A) + ahead.number(s.x.B)
	case api.OpEor:
		return ahead.number(s.x.A) ^ ahead.number(s.x.B)
	case api.OpAnd:
		return ahead.number(s.x.A) & ahead.number(s.x.B)
	}
	return s.gave
}

// hangs is on what register n hangs.
func (p past) hangs(n int) uint32 {
	k := p.giver(n)
	if k < 0 {
		return 0
	}
	s, ahead := p[k], p[:k]
	switch s.x.Op {
	case api.OpAdd, api.OpEor, api.OpAnd:
		return ahead.hangs(s.x.A) | ahead.hangs(s.x.B)
	case api.OpLdr, api.OpLdar, api.OpLdxr:
		return 1 << s.event
	}
	return 0
}

// place is that of a load or a store, and on what it hangs.
func (p past) place(x api.Ins, locs int) (int, uint32) {
	if x.A < 0 {
		return x.Loc, 0
	}
	sum := new(big.Int).Add(big.NewInt(int64(x.Loc)), big.NewInt(p.number(x.A)))
	return int(sum.Mod(sum, big.NewInt(int64(locs))).Int64()), p.hangs(x.A)
}

// ctrl is on what all branches hung.
func (p past) ctrl() uint32 {
	var all uint32
	for k, s := range p {
		if s.x.Op == api.OpCbz || s.x.Op == api.OpCbnz {
			all |= p[:k].hangs(s.x.A)
		}
	}
	return all
}

// exclusive is the event of the last ldxr behind which no stxr stands; -1 without one.
func (p past) exclusive() int {
	for k := len(p) - 1; k >= 0; k-- {
		switch p[k].x.Op {
		case api.OpStxr:
			return -1
		case api.OpLdxr:
			return p[k].event
		}
	}
	return -1
}

// file is the registers at the end.
func (p past) file() regs.File {
	var f regs.File
	for n := range 4 {
		f.V[n], f.Dep[n] = p.number(n), p.hangs(n)
	}
	return f
}

// with is tr with one more event.
func with(tr Trace, e api.Event, addr, data, ctrl uint32, pair int) Trace {
	tr.Events = append(tr.Events, e)
	tr.Addr, tr.Data, tr.Ctrl = append(tr.Addr, addr), append(tr.Data, data), append(tr.Ctrl, ctrl)
	tr.Pair = append(tr.Pair, pair)
	return tr
}

// expected is the chapter's word on a thread that may be.
func expected(th []api.Ins, locs int, vals []int64, lucks []bool) Trace {
	var tr Trace
	var p past
	for k := 0; k < len(th); k++ {
		x := th[k]
		s := step{x: x, event: len(tr.Events)}
		place, addr := p.place(x, locs)
		switch x.Op {
		case api.OpLdr, api.OpLdar, api.OpLdxr:
			if tr.Vals >= len(vals) {
				tr.More, tr.Regs = Value, p.file()
				return tr
			}
			s.gave = vals[tr.Vals]
			tr.Vals++
			e := api.Event{Kind: api.Read, Loc: place, Val: s.gave, Acq: x.Op == api.OpLdar, Excl: x.Op == api.OpLdxr}
			tr = with(tr, e, addr, 0, p.ctrl(), -1)
		case api.OpStr, api.OpStlr:
			e := api.Event{Kind: api.Write, Loc: place, Val: p.number(x.B), Rel: x.Op == api.OpStlr}
			tr = with(tr, e, addr, p.hangs(x.B), p.ctrl(), -1)
		case api.OpStxr:
			s.gave = 1
			if l := p.exclusive(); l >= 0 && tr.Events[l].Loc == place {
				if tr.Lucks >= len(lucks) {
					tr.More, tr.Regs = Luck, p.file()
					return tr
				}
				if lucks[tr.Lucks] {
					s.gave = 0
					tr = with(tr, api.Event{Kind: api.Write, Loc: place, Val: p.number(x.B), Excl: true}, addr, p.hangs(x.B), p.ctrl(), l)
				}
				tr.Lucks++
			}
		case api.OpDmb:
			tr = with(tr, api.Event{Kind: map[int64]int{0: api.Sy, 1: api.Ld, 2: api.St}[x.Imm]}, 0, 0, p.ctrl(), -1)
		case api.OpIsb:
			tr = with(tr, api.Event{Kind: api.Isb}, 0, 0, p.ctrl(), -1)
		case api.OpCbz:
			if p.number(x.A) == 0 {
				k += int(x.Imm)
			}
		case api.OpCbnz:
			if p.number(x.A) != 0 {
				k += int(x.Imm)
			}
		}
		p = append(p, s)
	}
	tr.Regs = p.file()
	return tr
}

// same tells whether two traces are; nil and empty lists are the same.
func same(a, b Trace) bool {
	return slices.Equal(a.Events, b.Events) && slices.Equal(a.Addr, b.Addr) && slices.Equal(a.Data, b.Data) &&
		slices.Equal(a.Ctrl, b.Ctrl) && slices.Equal(a.Pair, b.Pair) && a.Regs == b.Regs &&
		a.Vals == b.Vals && a.Lucks == b.Lucks && a.More == b.More
}

// eachGuess hands on all guesses of a thread: from none on, each with one value, or one luck, more, as it is asked for.
func eachGuess(th []api.Ins, locs int, values []int64, do func(vals []int64, lucks []bool, tr Trace)) {
	var further func(vals []int64, lucks []bool)
	further = func(vals []int64, lucks []bool) {
		tr := Run(th, locs, vals, lucks)
		do(vals, lucks, tr)
		if len(vals)+len(lucks) > 2*api.MaxIns {
			return
		}
		switch tr.More {
		case Value:
			for _, v := range values {
				further(append(slices.Clone(vals), v), lucks)
			}
		case Luck:
			for _, luck := range []bool{true, false} {
				further(vals, append(slices.Clone(lucks), luck))
			}
		}
	}
	further(nil, nil)
}

// few are instructions of all kinds, of few registers, so that short threads of them have much to do with each other. A
// branch that leaves out more than stand behind it makes a thread that may not be.
func few() []api.Ins {
	return []api.Ins{
		{Op: api.OpMov, D: 1, Imm: 1}, {Op: api.OpAdd, D: 0, A: 0, B: 1}, {Op: api.OpEor, D: 1, A: 1, B: 1}, {Op: api.OpAnd, D: 0, A: 1, B: 0},
		{Op: api.OpLdr, D: 0, A: -1}, {Op: api.OpLdr, D: 1, A: 0, Loc: 1}, {Op: api.OpLdar, D: 1, A: 1},
		{Op: api.OpStr, B: 1, A: 0}, {Op: api.OpStlr, B: 0, A: -1, Loc: 1},
		{Op: api.OpLdxr, D: 0, A: -1}, {Op: api.OpLdxr, D: 1, A: 0, Loc: 1},
		{Op: api.OpStxr, D: 0, B: 0, A: -1}, {Op: api.OpStxr, D: 1, B: 0, A: 1, Loc: 1},
		{Op: api.OpDmb}, {Op: api.OpDmb, Imm: 1}, {Op: api.OpDmb, Imm: 2}, {Op: api.OpIsb},
		{Op: api.OpCbz, A: 0}, {Op: api.OpCbz, A: 1, Imm: 1}, {Op: api.OpCbnz, A: 0, Imm: 1}, {Op: api.OpCbnz, A: 1, Imm: 2},
	}
}

// eachShort hands on all threads of up to n of few that may be.
func eachShort(n int, do func(th []api.Ins)) {
	var grow func(th []api.Ins)
	grow = func(th []api.Ins) {
		if branchesFit(th) {
			do(th)
		}
		if len(th) == n {
			return
		}
		for _, x := range few() {
			grow(append(slices.Clone(th), x))
		}
	}
	grow(nil)
}

func branchesFit(th []api.Ins) bool {
	for k, x := range th {
		if (x.Op == api.OpCbz || x.Op == api.OpCbnz) && int(x.Imm) > len(th)-1-k {
			return false
		}
	}
	return true
}

// dice are numbers that are mixed up, but the same each time.
type dice uint64

func (d *dice) below(n int) int {
	*d = *d*6364136223846793005 + 1442695040888963407
	return int(uint64(*d) >> 33 % uint64(n))
}

// mixed is an instruction that may be, of any kind; exclusive ones are frequent, so that many have to do with each other.
func (d *dice) mixed(behind, locs int) api.Ins {
	x := api.Ins{Op: 1 + d.below(14)}
	if d.below(3) == 0 {
		x.Op = api.OpLdxr + d.below(2)
	}
	reg := func() int { return d.below(4) }
	switch x.Op {
	case api.OpMov:
		x.D, x.Imm = reg(), int64(d.below(2001)-1000)
	case api.OpAdd, api.OpEor, api.OpAnd:
		x.D, x.A, x.B = reg(), reg(), reg()
	case api.OpLdr, api.OpLdar, api.OpLdxr:
		x.D, x.A, x.Loc = reg(), d.below(5)-1, d.below(locs)
	case api.OpStr, api.OpStlr:
		x.B, x.A, x.Loc = reg(), d.below(5)-1, d.below(locs)
	case api.OpStxr:
		x.D, x.B, x.A, x.Loc = reg(), reg(), d.below(5)-1, d.below(locs)
	case api.OpDmb:
		x.Imm = int64(d.below(3))
	case api.OpCbz, api.OpCbnz:
		x.A, x.Imm = reg(), int64(d.below(behind+1))
	}
	return x
}

// eachLong hands on threads of up to 8 instructions that may be.
func eachLong(n int, do func(th []api.Ins, locs int)) {
	d := dice(1)
	for range n {
		locs := 1 + d.below(3)
		th := make([]api.Ins, 1+d.below(8))
		for k := range th {
			th[k] = d.mixed(len(th)-1-k, locs)
		}
		do(th, locs)
	}
}

// compare holds Run against the chapter's word, of all guesses.
func compare(t *testing.T, th []api.Ins, locs int, values []int64) {
	eachGuess(th, locs, values, func(vals []int64, lucks []bool, got Trace) {
		if want := expected(th, locs, vals, lucks); !same(got, want) {
			t.Fatalf("Run(%v, %d, %v, %v) is\n%+v, not\n%+v", th, locs, vals, lucks, got, want)
		}
	})
}

// TestShortThreads: P8.1, of all threads of up to three of few, on all guesses.
func TestShortThreads(t *testing.T) {
	eachShort(3, func(th []api.Ins) { compare(t, th, 2, []int64{0, 1}) })
}

// TestLongThreads: P8.1, of threads of up to eight, of all registers, and of one to three places.
func TestLongThreads(t *testing.T) {
	eachLong(6000, func(th []api.Ins, locs int) { compare(t, th, locs, []int64{0, -7, math.MaxInt64}) })
}

// TestExample: the chapter's example: a load of the value, and a store of it, whose Data is the load.
func TestExample(t *testing.T) {
	th := []api.Ins{{Op: api.OpLdr, D: 1, A: -1}, {Op: api.OpStr, B: 1, A: -1, Loc: 1}}
	want := Trace{
		Events: []api.Event{{Kind: api.Read, Val: 7}, {Kind: api.Write, Loc: 1, Val: 7}},
		Addr:   []uint32{0, 0}, Data: []uint32{0, 1}, Ctrl: []uint32{0, 0}, Pair: []int{-1, -1},
		Regs: regs.File{V: [4]int64{0, 7, 0, 0}, Dep: [4]uint32{0, 1, 0, 0}}, Vals: 1,
	}
	if got := Run(th, 2, []int64{7}, nil); !same(got, want) {
		t.Errorf("%+v", got)
	}
}

// TestNumbersOfEnds: the chapter's constants.
func TestNumbersOfEnds(t *testing.T) {
	if Done != 0 || Value != 1 || Luck != 2 {
		t.Error(Done, Value, Luck)
	}
}

// TestKindsOfEvents: P8.1; which event each instruction is, and of which none comes.
func TestKindsOfEvents(t *testing.T) {
	ahead := []api.Ins{{Op: api.OpMov, D: 2, Imm: 5}, {Op: api.OpLdxr, D: 1, A: -1, Loc: 2}}
	for _, c := range []struct {
		x    api.Ins
		want []api.Event
	}{
		{api.Ins{Op: api.OpMov, D: 1, Imm: 1}, nil},
		{api.Ins{Op: api.OpAdd, D: 1, A: 1, B: 1}, nil},
		{api.Ins{Op: api.OpEor, D: 1, A: 1, B: 1}, nil},
		{api.Ins{Op: api.OpAnd, D: 1, A: 1, B: 1}, nil},
		{api.Ins{Op: api.OpLdr, A: -1, Loc: 1}, []api.Event{{Kind: api.Read, Loc: 1, Val: -4}}},
		{api.Ins{Op: api.OpLdar, A: 2}, []api.Event{{Kind: api.Read, Loc: 2, Val: -4, Acq: true}}},
		{api.Ins{Op: api.OpLdxr, A: -1}, []api.Event{{Kind: api.Read, Val: -4, Excl: true}}},
		{api.Ins{Op: api.OpStr, B: 2, A: -1, Loc: 1}, []api.Event{{Kind: api.Write, Loc: 1, Val: 5}}},
		{api.Ins{Op: api.OpStlr, B: 2, A: 2, Loc: 2}, []api.Event{{Kind: api.Write, Loc: 1, Val: 5, Rel: true}}},
		{api.Ins{Op: api.OpStxr, B: 2, A: -1, Loc: 2}, []api.Event{{Kind: api.Write, Loc: 2, Val: 5, Excl: true}}},
		{api.Ins{Op: api.OpDmb}, []api.Event{{Kind: api.Sy}}},
		{api.Ins{Op: api.OpDmb, Imm: 1}, []api.Event{{Kind: api.Ld}}},
		{api.Ins{Op: api.OpDmb, Imm: 2}, []api.Event{{Kind: api.St}}},
		{api.Ins{Op: api.OpIsb}, []api.Event{{Kind: api.Isb}}},
		{api.Ins{Op: api.OpCbz, A: 2}, nil},
		{api.Ins{Op: api.OpCbnz, A: 2}, nil},
	} {
		got := Run(append(slices.Clone(ahead), c.x), 3, []int64{3, -4}, []bool{true})
		want := append([]api.Event{{Kind: api.Read, Loc: 2, Val: 3, Excl: true}}, c.want...)
		if !slices.Equal(got.Events, want) || got.More != Done {
			t.Errorf("%v: %+v", c.x, got)
		}
	}
}

// TestLoadOfItsOwnBase: P8.1; the place is that of the register ahead of the load, and what it hung on is gone then.
func TestLoadOfItsOwnBase(t *testing.T) {
	th := []api.Ins{{Op: api.OpLdr, D: 0, A: -1}, {Op: api.OpLdr, D: 0, A: 0}, {Op: api.OpLdar, D: 0, A: 0}}
	got := Run(th, 3, []int64{1, -1, 8}, nil)
	want := Trace{
		Events: []api.Event{{Kind: api.Read, Val: 1}, {Kind: api.Read, Loc: 1, Val: -1}, {Kind: api.Read, Loc: 2, Val: 8, Acq: true}},
		Addr:   []uint32{0, 1, 2}, Data: []uint32{0, 0, 0}, Ctrl: []uint32{0, 0, 0}, Pair: []int{-1, -1, -1},
		Regs: regs.File{V: [4]int64{8}, Dep: [4]uint32{4}}, Vals: 3,
	}
	if !same(got, want) {
		t.Errorf("%+v", got)
	}
}

// TestValuesRunOut: P8.1; the trace ends ahead of the load, with the registers that were come to.
func TestValuesRunOut(t *testing.T) {
	th := []api.Ins{{Op: api.OpMov, D: 3, Imm: -9}, {Op: api.OpLdr, D: 1, A: -1}, {Op: api.OpIsb}, {Op: api.OpLdr, D: 3, A: 1}, {Op: api.OpDmb}}
	at := []Trace{
		{Regs: regs.File{V: [4]int64{0, 0, 0, -9}}, More: Value},
		{
			Events: []api.Event{{Kind: api.Read, Val: 6}, {Kind: api.Isb}},
			Addr:   []uint32{0, 0}, Data: []uint32{0, 0}, Ctrl: []uint32{0, 0}, Pair: []int{-1, -1},
			Regs: regs.File{V: [4]int64{0, 6, 0, -9}, Dep: [4]uint32{0, 1, 0, 0}}, Vals: 1, More: Value,
		},
		{
			Events: []api.Event{{Kind: api.Read, Val: 6}, {Kind: api.Isb}, {Kind: api.Read, Val: 2}, {Kind: api.Sy}},
			Addr:   []uint32{0, 0, 1, 0}, Data: make([]uint32, 4), Ctrl: make([]uint32, 4), Pair: []int{-1, -1, -1, -1},
			Regs: regs.File{V: [4]int64{0, 6, 0, 2}, Dep: [4]uint32{0, 1, 0, 4}}, Vals: 2,
		},
	}
	for n, want := range at {
		for _, lucks := range [][]bool{nil, {true}, {false, false}} {
			if got := Run(th, 1, []int64{6, 2}[:n], lucks); !same(got, want) {
				t.Errorf("%d values: %+v", n, got)
			}
		}
	}
}

// TestExclusiveStores: P8.1; which load an exclusive store has, when it takes a luck, and what it gives. An instruction that
// is left out is as if it weren't there.
func TestExclusiveStores(t *testing.T) {
	load := api.Ins{Op: api.OpLdxr, D: 1, A: -1}
	loadOther := api.Ins{Op: api.OpLdxr, D: 1, A: -1, Loc: 1}
	store := api.Ins{Op: api.OpStxr, D: 2, B: 1, A: -1}
	storeOther := api.Ins{Op: api.OpStxr, D: 2, B: 1, A: -1, Loc: 1}
	plain := api.Ins{Op: api.OpLdr, D: 3, A: -1}
	acquire := api.Ins{Op: api.OpLdar, D: 3, A: -1}
	write := api.Ins{Op: api.OpStr, B: 3, A: -1}
	skip := api.Ins{Op: api.OpCbz, A: 0, Imm: 1}
	one := api.Ins{Op: api.OpMov, D: 0, Imm: 1}
	atOne := api.Ins{Op: api.OpStxr, D: 2, B: 1, A: 0, Loc: 1}
	yes, no := []bool{true}, []bool{false}
	for k, c := range []struct {
		th    []api.Ins
		lucks []bool
		pairs []int
		lucky int
		gave  int64
	}{
		{[]api.Ins{store}, yes, nil, 0, 1},
		{[]api.Ins{plain, store}, yes, []int{-1}, 0, 1},
		{[]api.Ins{acquire, store}, yes, []int{-1}, 0, 1},
		{[]api.Ins{store, load}, yes, []int{-1}, 0, 1},
		{[]api.Ins{load, store}, yes, []int{-1, 0}, 1, 0},
		{[]api.Ins{load, store}, no, []int{-1}, 1, 1},
		{[]api.Ins{load, storeOther}, yes, []int{-1}, 0, 1},
		{[]api.Ins{loadOther, storeOther}, yes, []int{-1, 0}, 1, 0},
		{[]api.Ins{load, store, store}, []bool{true, true}, []int{-1, 0}, 1, 1},
		{[]api.Ins{load, store, store}, []bool{false, true}, []int{-1}, 1, 1},
		{[]api.Ins{load, storeOther, store}, yes, []int{-1}, 0, 1},
		{[]api.Ins{load, load, store, store}, []bool{true, true}, []int{-1, -1, 1}, 1, 1},
		{[]api.Ins{load, loadOther, store}, yes, []int{-1, -1}, 0, 1},
		{[]api.Ins{load, loadOther, storeOther}, yes, []int{-1, -1, 1}, 1, 0},
		{[]api.Ins{load, store, load, store}, []bool{true, true}, []int{-1, 0, -1, 2}, 2, 0},
		{[]api.Ins{load, store, load, store}, []bool{false, true}, []int{-1, -1, 1}, 2, 0},
		{[]api.Ins{load, plain, write, acquire, store}, yes, []int{-1, -1, -1, -1, 0}, 1, 0},
		{[]api.Ins{plain, write, load, write, store}, yes, []int{-1, -1, -1, -1, 2}, 1, 0},
		{[]api.Ins{skip, load, store}, yes, nil, 0, 1},
		{[]api.Ins{load, skip, loadOther, store}, yes, []int{-1, 0}, 1, 0},
		{[]api.Ins{load, skip, store, store}, yes, []int{-1, 0}, 1, 0},
		{[]api.Ins{load, skip, storeOther, store}, yes, []int{-1, 0}, 1, 0},
		{[]api.Ins{one, load, atOne}, yes, []int{-1, 0}, 1, 0},
		{[]api.Ins{one, loadOther, atOne}, yes, []int{-1}, 0, 1},
		{[]api.Ins{load, one, atOne}, yes, []int{-1, 0}, 1, 0},
	} {
		got := Run(c.th, 2, []int64{4, 5, 6}, c.lucks)
		if !slices.Equal(got.Pair, c.pairs) || got.Lucks != c.lucky || got.Regs.V[2] != c.gave || got.Regs.Dep[2] != 0 || got.More != Done {
			t.Errorf("%d: %+v", k, got)
		}
	}
}

// TestExclusiveStoreOfItsOwnRegisters: P8.1; what is stored, and where, is of the registers ahead of D's change; D hangs on
// nothing, stored or failed.
func TestExclusiveStoreOfItsOwnRegisters(t *testing.T) {
	th := []api.Ins{{Op: api.OpLdxr, D: 1, A: -1, Loc: 2}, {Op: api.OpStxr, D: 1, B: 1, A: 1}}
	want := Trace{
		Events: []api.Event{{Kind: api.Read, Loc: 2, Val: 5, Excl: true}, {Kind: api.Write, Loc: 2, Val: 5, Excl: true}},
		Addr:   []uint32{0, 1}, Data: []uint32{0, 1}, Ctrl: []uint32{0, 0}, Pair: []int{-1, 0}, Vals: 1, Lucks: 1,
	}
	if got := Run(th, 3, []int64{5}, []bool{true}); !same(got, want) {
		t.Errorf("%+v", got)
	}
	want.Events, want.Addr, want.Data, want.Ctrl, want.Pair = want.Events[:1], want.Addr[:1], want.Data[:1], want.Ctrl[:1], want.Pair[:1]
	want.Regs.V[1] = 1
	if got := Run(th, 3, []int64{5}, []bool{false}); !same(got, want) {
		t.Errorf("failed: %+v", got)
	}
}

// TestLucksRunOut: P8.1; the trace ends ahead of the store, whose register D stays.
func TestLucksRunOut(t *testing.T) {
	th := []api.Ins{{Op: api.OpLdxr, D: 1, A: -1}, {Op: api.OpStxr, D: 1, B: 1, A: -1}, {Op: api.OpIsb}}
	want := Trace{
		Events: []api.Event{{Kind: api.Read, Val: 5, Excl: true}},
		Addr:   []uint32{0}, Data: []uint32{0}, Ctrl: []uint32{0}, Pair: []int{-1},
		Regs: regs.File{V: [4]int64{0, 5, 0, 0}, Dep: [4]uint32{0, 1, 0, 0}}, Vals: 1, More: Luck,
	}
	for _, vals := range [][]int64{{5}, {5, 6}, {5, 5, 5}} {
		if got := Run(th, 1, vals, nil); !same(got, want) {
			t.Errorf("%v: %+v", vals, got)
		}
	}
	if got := Run(th, 1, nil, nil); got.More != Value || len(got.Events) != 0 {
		t.Errorf("without both: %+v", got)
	}
}

// TestBranches: P8.1; when instructions are left out, and how many.
func TestBranches(t *testing.T) {
	for _, c := range []struct {
		op   int
		v    int64
		left bool
	}{
		{api.OpCbz, 0, true}, {api.OpCbz, 1, false}, {api.OpCbz, -1, false}, {api.OpCbz, 1 << 32, false}, {api.OpCbz, math.MinInt64, false},
		{api.OpCbnz, 0, false}, {api.OpCbnz, 1, true}, {api.OpCbnz, -1, true}, {api.OpCbnz, 1 << 32, true}, {api.OpCbnz, math.MinInt64, true},
	} {
		for imm := range 6 {
			th := []api.Ins{{Op: api.OpLdr, D: 3, A: -1}, {Op: api.OpIsb}, {Op: c.op, A: 3, Imm: int64(imm)},
				{Op: api.OpDmb}, {Op: api.OpDmb, Imm: 1}, {Op: api.OpDmb, Imm: 2}, {Op: api.OpIsb}, {Op: api.OpStr, A: -1}}
			kinds := []int{api.Sy, api.Ld, api.St, api.Isb, api.Write}
			if c.left {
				kinds = kinds[imm:]
			}
			got := Run(th, 1, []int64{c.v}, nil)
			var have []int
			for _, e := range got.Events[2:] {
				have = append(have, e.Kind)
			}
			if !slices.Equal(have, kinds) || got.More != Done {
				t.Errorf("%v: kinds %v, not %v", th[2], have, kinds)
			}
			if got.Ctrl[0] != 0 || got.Ctrl[1] != 0 || slices.ContainsFunc(got.Ctrl[2:], func(c uint32) bool { return c != 1 }) {
				t.Errorf("%v: Ctrl %v", th[2], got.Ctrl)
			}
		}
	}
}

// TestCtrlIsKept: P8.1; what branches hung on comes together, of branches that leave nothing out too, and stays when their
// registers change.
func TestCtrlIsKept(t *testing.T) {
	th := []api.Ins{
		{Op: api.OpLdr, D: 0, A: -1}, {Op: api.OpLdr, D: 1, A: -1}, {Op: api.OpCbnz, A: 1}, {Op: api.OpMov, D: 1, Imm: 3},
		{Op: api.OpCbz, A: 1, Imm: 3}, {Op: api.OpLdar, D: 1, A: -1}, {Op: api.OpCbz, A: 0}, {Op: api.OpStlr, B: 3, A: -1},
	}
	got := Run(th, 1, []int64{4, 0, 9}, nil)
	if !slices.Equal(got.Ctrl, []uint32{0, 0, 2, 3}) || got.Regs.Dep != [4]uint32{1, 4, 0, 0} {
		t.Errorf("%+v", got)
	}
}

// TestDependencies: P8.1; sets are of events' places, not of how many loads there were; what is told anew hangs on that alone.
func TestDependencies(t *testing.T) {
	th := []api.Ins{
		{Op: api.OpIsb}, {Op: api.OpLdr, D: 0, A: -1}, {Op: api.OpDmb}, {Op: api.OpLdr, D: 1, A: 0},
		{Op: api.OpEor, D: 2, A: 1, B: 1}, {Op: api.OpAdd, D: 3, A: 2, B: 0}, {Op: api.OpStr, B: 3, A: 2, Loc: 1}, {Op: api.OpMov, D: 3},
	}
	got := Run(th, 2, []int64{3, 10}, nil)
	want := Trace{
		Events: []api.Event{{Kind: api.Isb}, {Kind: api.Read, Val: 3}, {Kind: api.Sy}, {Kind: api.Read, Loc: 1, Val: 10}, {Kind: api.Write, Loc: 1, Val: 3}},
		Addr:   []uint32{0, 0, 0, 2, 8}, Data: []uint32{0, 0, 0, 0, 10}, Ctrl: make([]uint32, 5), Pair: []int{-1, -1, -1, -1, -1},
		Regs: regs.File{V: [4]int64{3, 10, 0, 0}, Dep: [4]uint32{2, 8, 8, 0}}, Vals: 2,
	}
	if !same(got, want) {
		t.Errorf("%+v", got)
	}
}

// TestValuesAtTheEnds: P8.1; a value may be any number, and a place is from 0 on.
func TestValuesAtTheEnds(t *testing.T) {
	th := []api.Ins{{Op: api.OpLdr, D: 1, A: -1}, {Op: api.OpAdd, D: 2, A: 1, B: 1}, {Op: api.OpStr, B: 2, A: 1, Loc: 2}}
	for _, c := range []struct {
		v      int64
		place  int
		stored int64
	}{
		{math.MaxInt64, 0, -2}, {math.MinInt64, 0, 0}, {math.MinInt64 + 1, 1, 2}, {-1, 1, -2}, {-5, 0, -10}, {1 << 62, 0, math.MinInt64},
	} {
		got := Run(th, 3, []int64{c.v}, nil)
		if len(got.Events) != 2 || got.Events[0].Val != c.v || got.Events[1] != (api.Event{Kind: api.Write, Loc: c.place, Val: c.stored}) {
			t.Errorf("%d: %+v", c.v, got)
		}
	}
}

// TestManyInstructions: P8.1; eight may be, nine not, and none is a thread that does nothing.
func TestManyInstructions(t *testing.T) {
	for n := range 40 {
		got := Run(slices.Repeat([]api.Ins{{Op: api.OpLdr, D: 2, A: 2, Loc: 1}}, n), 2, slices.Repeat([]int64{1}, n), nil)
		if n > 8 {
			if !same(got, Trace{}) {
				t.Errorf("%d instructions: %+v", n, got)
			}
			continue
		}
		if len(got.Events) != n || got.Vals != n || got.More != Done {
			t.Errorf("%d instructions: %+v", n, got)
		}
	}
	if got := Run(nil, 3, []int64{1}, []bool{true}); !same(got, Trace{}) {
		t.Errorf("of none: %+v", got)
	}
}

// TestWrongLocs: P8.1; of other than 1 to 3 places the zero trace.
func TestWrongLocs(t *testing.T) {
	th := []api.Ins{{Op: api.OpMov, D: 1, Imm: 5}, {Op: api.OpLdr, D: 2, A: -1}, {Op: api.OpIsb}}
	for _, locs := range []int{math.MinInt, math.MinInt32, -1, 0, 4, 5, 256 + 1, 1<<32 + 1, math.MaxInt} {
		for _, vals := range [][]int64{nil, {1}} {
			for _, l := range [][]api.Ins{th, th[:1], th[2:]} {
				if got := Run(l, locs, vals, nil); !same(got, Trace{}) {
					t.Errorf("%v of %d: %+v", l, locs, got)
				}
			}
		}
	}
	for locs := 1; locs <= 3; locs++ {
		if got := Run(th, locs, []int64{1}, nil); len(got.Events) != 2 {
			t.Errorf("of %d: %+v", locs, got)
		}
	}
}

// TestWrongInstructions: P8.1; one that may not be, at any place, come to or not, makes the zero trace of it all.
func TestWrongInstructions(t *testing.T) {
	good := []api.Ins{{Op: api.OpMov, D: 1, Imm: 1}, {Op: api.OpCbnz, A: 1, Imm: 2}, {Op: api.OpIsb}, {Op: api.OpIsb}, {Op: api.OpLdr, D: 1, A: -1}, {Op: api.OpIsb}}
	if got := Run(good, 2, nil, nil); got.More != Value || got.Regs.V[1] != 1 {
		t.Fatalf("%+v", got)
	}
	for _, x := range []api.Ins{
		{}, {Op: -1}, {Op: 15}, {Op: math.MinInt}, {Op: math.MaxInt}, {Op: 1<<32 + api.OpIsb},
		{Op: api.OpIsb, D: 1}, {Op: api.OpIsb, Imm: 1}, {Op: api.OpDmb, Imm: 3}, {Op: api.OpDmb, Imm: -1}, {Op: api.OpDmb, Loc: 1},
		{Op: api.OpMov, D: 4}, {Op: api.OpMov, D: -1}, {Op: api.OpMov, Imm: 1001}, {Op: api.OpMov, Imm: -1001}, {Op: api.OpMov, A: -1},
		{Op: api.OpAdd, A: -1}, {Op: api.OpEor, B: 4}, {Op: api.OpAnd, D: math.MaxInt},
		{Op: api.OpLdr, A: -2}, {Op: api.OpLdr, A: 4}, {Op: api.OpLdr, Loc: 2}, {Op: api.OpLdr, Loc: -1}, {Op: api.OpLdar, B: 1}, {Op: api.OpLdxr, D: 4},
		{Op: api.OpStr, D: 1}, {Op: api.OpStr, B: -1}, {Op: api.OpStlr, Loc: 3}, {Op: api.OpStxr, D: -1}, {Op: api.OpStxr, Imm: 1},
		{Op: api.OpCbz, Imm: -1}, {Op: api.OpCbz, Imm: 6}, {Op: api.OpCbnz, A: -1}, {Op: api.OpCbnz, A: 1, Imm: math.MaxInt64}, {Op: api.OpCbz, A: 1, Imm: math.MinInt64},
	} {
		for k := range good {
			th := slices.Clone(good)
			th[k] = x
			for _, vals := range [][]int64{nil, {1}} {
				if got := Run(th, 2, vals, []bool{true}); !same(got, Trace{}) {
					t.Errorf("%v at %d: %+v", x, k, got)
				}
			}
		}
	}
}

// TestBranchBeyondTheEnd: P8.1; a branch leaves out at most as many as stand behind it.
func TestBranchBeyondTheEnd(t *testing.T) {
	for n := 1; n <= 8; n++ {
		for k := range n {
			for imm := range 10 {
				th := slices.Repeat([]api.Ins{{Op: api.OpIsb}}, n)
				th[k] = api.Ins{Op: api.OpCbz, A: 1, Imm: int64(imm)}
				want := n - 1 - imm
				if imm > n-1-k {
					want = 0
				}
				if got := Run(th, 1, nil, nil); len(got.Events) != want {
					t.Errorf("%d of %d leaves out %d: %+v", k, n, imm, got)
				}
			}
		}
	}
}

// TestMoreThanIsTaken: P8.2; values and lucks beyond those that are taken change nothing.
func TestMoreThanIsTaken(t *testing.T) {
	check := func(th []api.Ins, locs int) {
		eachGuess(th, locs, []int64{0, 1}, func(vals []int64, lucks []bool, tr Trace) {
			if tr.Vals != len(vals) || tr.Lucks != len(lucks) {
				t.Fatalf("%v: %d and %d taken of %v, %v", th, tr.Vals, tr.Lucks, vals, lucks)
			}
			for _, v := range []int64{0, 1, 99} {
				moreVals, moreLucks := vals, lucks
				if tr.More != Value {
					moreVals = append(slices.Clone(vals), v, 1-v)
				}
				if tr.More != Luck {
					moreLucks = append(slices.Clone(lucks), v == 0, v == 1)
				}
				if got := Run(th, locs, moreVals, moreLucks); !same(got, tr) {
					t.Fatalf("Run(%v, %d, %v, %v) is\n%+v, not\n%+v", th, locs, moreVals, moreLucks, got, tr)
				}
			}
		})
	}
	eachShort(2, func(th []api.Ins) { check(th, 2) })
	eachLong(2000, check)
}

// TestHangsOnLoadsAhead: P8.2; of each event all bits are of reads ahead of it; a pair is an exclusive read ahead, of its place.
func TestHangsOnLoadsAhead(t *testing.T) {
	eachLong(4000, func(th []api.Ins, locs int) {
		eachGuess(th, locs, []int64{0, 3}, func(vals []int64, lucks []bool, tr Trace) {
			n := len(tr.Events)
			if len(tr.Addr) != n || len(tr.Data) != n || len(tr.Ctrl) != n || len(tr.Pair) != n {
				t.Fatalf("%v: lists of unlike lengths: %+v", th, tr)
			}
			reads := uint32(0)
			for k, e := range tr.Events {
				if (tr.Addr[k]|tr.Data[k]|tr.Ctrl[k])&^reads != 0 {
					t.Fatalf("%v: event %d hangs on what is no load ahead: %+v", th, k, tr)
				}
				if e.Kind == api.Read {
					reads |= 1 << k
				}
				if (tr.Pair[k] >= 0) != (e.Kind == api.Write && e.Excl) || tr.Pair[k] >= k || e.Thread != 0 {
					t.Fatalf("%v: event %d: %+v", th, k, tr)
				}
				if p := tr.Pair[k]; p >= 0 {
					if l := tr.Events[p]; l.Kind != api.Read || !l.Excl || l.Loc != e.Loc {
						t.Fatalf("%v: event %d has the load %v", th, k, l)
					}
				}
			}
			for r, dep := range tr.Regs.Dep {
				if dep&^reads != 0 {
					t.Fatalf("%v: register %d hangs on %b", th, r, dep)
				}
			}
		})
	})
}

// TestNothingIsKept: what is handed in stays, answers are apart, and a call tells the same again.
func TestNothingIsKept(t *testing.T) {
	th := []api.Ins{{Op: api.OpLdxr, D: 1, A: -1}, {Op: api.OpStxr, D: 2, B: 1, A: -1}, {Op: api.OpCbz, A: 1}, {Op: api.OpStr, B: 1, A: 1}}
	vals, lucks := []int64{5, 6}, []bool{true, false}
	a, b, c := slices.Clone(th), slices.Clone(vals), slices.Clone(lucks)
	first := Run(th, 2, vals, lucks)
	want := expected(th, 2, vals, lucks)
	second := Run(th, 2, vals, lucks)
	for k := range first.Events {
		first.Events[k], first.Addr[k], first.Data[k], first.Ctrl[k], first.Pair[k] = api.Event{Val: 77}, 71, 72, 73, 74
	}
	for k := range first.Events {
		if first.Addr[k] != 71 || first.Data[k] != 72 || first.Ctrl[k] != 73 {
			t.Fatalf("lists share memory: %+v", first)
		}
	}
	if !slices.Equal(th, a) || !slices.Equal(vals, b) || !slices.Equal(lucks, c) {
		t.Errorf("changed: %v, %v, %v", th, vals, lucks)
	}
	if !same(second, want) || !same(Run(th, 2, vals, lucks), want) {
		t.Errorf("%+v, not %+v", second, want)
	}
}
