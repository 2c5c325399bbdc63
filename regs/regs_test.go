package regs

import (
	"math"
	"math/big"
	"testing"

	"cupola/api"
)

// numbers are ordinary ones, and those at the ends of what a register holds.
var numbers = []int64{math.MinInt64, math.MinInt64 + 1, -1 << 32, -1000, -3, -2, -1, 0, 1, 2, 3, 6, 1000, 1<<32 + 5, 1 << 62, math.MaxInt64 - 1, math.MaxInt64}

// sets are of no load, of some, of the last one and of all.
var sets = []uint32{0, 1, 2, 6, 1 << 31, math.MaxUint32}

// noRegisters are numbers that are no register's.
var noRegisters = []int{math.MinInt, math.MinInt32, -5, -4, -2, -1, 4, 5, 7, 8, 31, 256, 1 << 32, 1<<32 + 1, math.MaxInt}

// nearby are the registers, and the numbers right beside them.
var nearby = []int{-1, 0, 1, 2, 3, 4}

// others are operations that aren't of registers alone, and numbers that are no operation.
var others = []int{
	api.OpLdr, api.OpStr, api.OpLdar, api.OpStlr, api.OpLdxr, api.OpStxr, api.OpDmb, api.OpIsb, api.OpCbz, api.OpCbnz,
	0, 15, 16, -1, -4, 64, 256 + 1, 1<<32 + 1, math.MaxInt, math.MinInt,
}

// accesses are the loads and the stores.
var accesses = []int{api.OpLdr, api.OpStr, api.OpLdar, api.OpStlr, api.OpLdxr, api.OpStxr}

// files are registers of many kinds, their numbers and their sets all unlike, or not.
func files() []File {
	return []File{
		{},
		{V: [4]int64{6, 3, -1, 1 << 62}, Dep: [4]uint32{1, 2, 4, 8}},
		{V: [4]int64{math.MaxInt64, math.MinInt64, 1, -1000}, Dep: [4]uint32{1 << 31, 0, math.MaxUint32, 5}},
		{V: [4]int64{5, 5, 5, 5}, Dep: [4]uint32{3, 6, 12, 24}},
		{V: [4]int64{-7, 0, 12345678901, 2}},
	}
}

// number is the number of register n, by the chapter's words: 0, if there is none.
func number(f File, n int) int64 {
	switch n {
	case 0, 1, 2, 3:
		return f.V[n]
	}
	return 0
}

// set is on what register n hangs: nothing, if there is none.
func set(f File, n int) uint32 {
	switch n {
	case 0, 1, 2, 3:
		return f.Dep[n]
	}
	return 0
}

// changed is f with another register n; f, if there is none.
func changed(f File, n int, v int64, dep uint32) File {
	for k := range 4 {
		if k == n {
			f.V[k], f.Dep[k] = v, dep
		}
	}
	return f
}

// wrapped is a number as if without an end, modulo 2^64, as a register holds it.
func wrapped(n *big.Int) int64 {
	whole := new(big.Int).Lsh(big.NewInt(1), 64)
	return int64(new(big.Int).Mod(n, whole).Uint64())
}

// bitwise makes a number bit by bit; what tells of how many of both (0 to 2) have the bit whether it is there.
func bitwise(a, b int64, what func(have uint64) bool) int64 {
	var made uint64
	for k := range 64 {
		if what(uint64(a)>>k&1 + uint64(b)>>k&1) {
			made += 1 << k
		}
	}
	return int64(made)
}

// made is the chapter's word on what add, eor and and make.
func made(op int, a, b int64) int64 {
	switch op {
	case api.OpAdd:
		return wrapped(new(big.Int).Add(big.NewInt(a), big.NewInt(b)))
	case api.OpEor:
		return bitwise(a, b, func(have uint64) bool { return have == 1 })
	}
	return bitwise(a, b, func(have uint64) bool { return have == 2 })
}

// TestGet: P7.1, of each register, and of numbers that are none.
func TestGet(t *testing.T) {
	for _, f := range files() {
		for n := range 4 {
			if v, dep := Get(f, n); v != f.V[n] || dep != f.Dep[n] {
				t.Errorf("Get(%v, %d) is %d, %b", f, n, v, dep)
			}
		}
		for _, n := range noRegisters {
			if v, dep := Get(f, n); v != 0 || dep != 0 {
				t.Errorf("Get(%v, %d) is %d, %b, of no register", f, n, v, dep)
			}
		}
	}
}

// TestSet: P7.1; the other registers stay, and so do all of them, if there is no such register.
func TestSet(t *testing.T) {
	for _, f := range files() {
		for _, v := range numbers {
			for _, dep := range sets {
				for n := range 4 {
					before := f
					if got, want := Set(f, n, v, dep), changed(f, n, v, dep); got != want {
						t.Errorf("Set(%v, %d, %d, %b) is %v", f, n, v, dep, got)
					}
					if f != before {
						t.Fatalf("Set changed what it was handed to %v", f)
					}
				}
				for _, n := range noRegisters {
					if got := Set(f, n, v, dep); got != f {
						t.Errorf("Set(%v, %d, %d, %b) is %v, of no register", f, n, v, dep, got)
					}
				}
			}
		}
	}
}

// TestDoMov: P7.1; Imm may be any number, what the register hung on is gone, and A, B and Loc play no part.
func TestDoMov(t *testing.T) {
	for _, f := range files() {
		for _, imm := range numbers {
			for _, d := range append(noRegisters, 0, 1, 2, 3) {
				for _, n := range nearby {
					x := api.Ins{Op: api.OpMov, D: d, A: n, B: n, Loc: n, Imm: imm}
					if got, want := Do(f, x), changed(f, d, imm, 0); got != want {
						t.Errorf("Do(%v, %v) is %v, not %v", f, x, got, want)
					}
				}
			}
		}
	}
}

// TestDoOfTwo: P7.1, of all registers D, A and B, alike ones too, and of those that are none.
func TestDoOfTwo(t *testing.T) {
	for _, op := range []int{api.OpAdd, api.OpEor, api.OpAnd} {
		for _, f := range files() {
			for _, d := range nearby {
				for _, a := range nearby {
					for _, b := range nearby {
						x := api.Ins{Op: op, D: d, A: a, B: b, Loc: 2, Imm: 77}
						want := changed(f, d, made(op, number(f, a), number(f, b)), set(f, a)|set(f, b))
						if got := Do(f, x); got != want {
							t.Errorf("Do(%v, %v) is %v, not %v", f, x, got, want)
						}
					}
				}
			}
		}
	}
}

// TestDoNumbers: P7.1, of the numbers at the ends, modulo 2^64.
func TestDoNumbers(t *testing.T) {
	for _, op := range []int{api.OpAdd, api.OpEor, api.OpAnd} {
		for _, a := range numbers {
			for _, b := range numbers {
				f := File{V: [4]int64{9, a, b, 8}, Dep: [4]uint32{1, 2, 4, 8}}
				want := changed(f, 3, made(op, a, b), 6)
				if got := Do(f, api.Ins{Op: op, D: 3, A: 1, B: 2}); got != want {
					t.Errorf("operation %d of %d and %d: %v, not %v", op, a, b, got, want)
				}
			}
		}
	}
}

// TestDoFarRegisters: P7.1, of numbers far from those of registers: 0 and none to read, and nothing to write.
func TestDoFarRegisters(t *testing.T) {
	f := File{V: [4]int64{6, 3, -1, 12}, Dep: [4]uint32{1, 2, 4, 8}}
	for _, n := range noRegisters {
		for _, c := range []struct {
			x    api.Ins
			want File
		}{
			{api.Ins{Op: api.OpAdd, D: 2, A: n, B: 1}, changed(f, 2, 3, 2)},
			{api.Ins{Op: api.OpAdd, D: 2, A: 1, B: n}, changed(f, 2, 3, 2)},
			{api.Ins{Op: api.OpEor, D: 0, A: n, B: 3}, changed(f, 0, 12, 8)},
			{api.Ins{Op: api.OpAnd, D: 0, A: 3, B: n}, changed(f, 0, 0, 8)},
			{api.Ins{Op: api.OpAnd, D: 3, A: n, B: n}, changed(f, 3, 0, 0)},
			{api.Ins{Op: api.OpAdd, D: n, A: 0, B: 1}, f},
			{api.Ins{Op: api.OpEor, D: n, A: 0, B: 1}, f},
			{api.Ins{Op: api.OpAnd, D: n, A: 0, B: 1}, f},
		} {
			if got := Do(f, c.x); got != c.want {
				t.Errorf("Do(%v, %v) is %v, not %v", f, c.x, got, c.want)
			}
		}
	}
}

// TestDoOthers: P7.1; loads, stores, barriers, branches and what has no name leave registers as they are.
func TestDoOthers(t *testing.T) {
	for _, op := range others {
		for _, f := range files() {
			for _, n := range nearby {
				x := api.Ins{Op: op, D: n, A: n, B: n, Loc: n, Imm: int64(n)}
				if got := Do(f, x); got != f {
					t.Errorf("Do(%v, %v) is %v", f, x, got)
				}
			}
		}
	}
}

// placed is the chapter's word on a place: Loc and the number of A as if without an end, modulo locs.
func placed(f File, x api.Ins, locs int) (int, uint32) {
	sum := new(big.Int).Add(big.NewInt(int64(x.Loc)), big.NewInt(number(f, x.A)))
	return int(new(big.Int).Mod(sum, big.NewInt(int64(locs))).Int64()), set(f, x.A)
}

// TestPlace: P7.2, of all loads and stores, with Loc, the register's number and locs at their ends.
func TestPlace(t *testing.T) {
	manyLocs := []int{1, 2, 3, 4, 7, 1000, 1 << 32, 1 << 62, 1<<62 + 1, math.MaxInt - 1, math.MaxInt}
	for _, op := range accesses {
		for _, v := range numbers {
			f := File{V: [4]int64{11, 12, 13, 14}, Dep: [4]uint32{1, 2, 4, 8}}
			f.V[2], f.Dep[2] = v, 1<<31|4
			for _, loc := range numbers {
				for _, locs := range manyLocs {
					for _, a := range nearby {
						x := api.Ins{Op: op, D: 1, A: a, B: 3, Loc: int(loc), Imm: 5}
						p, dep := Place(f, x, locs)
						if wantP, wantDep := placed(f, x, locs); p != wantP || dep != wantDep {
							t.Errorf("Place(%v, %v, %d) is %d, %b, not %d, %b", f, x, locs, p, dep, wantP, wantDep)
						}
					}
				}
			}
		}
	}
}

// TestPlaceWithoutRegister: P7.2; below 0 A counts as 0 and hangs on nothing, and so does a register that is too high.
func TestPlaceWithoutRegister(t *testing.T) {
	f := File{V: [4]int64{1, 1, 1, 1}, Dep: [4]uint32{1, 2, 4, 8}}
	for _, op := range accesses {
		for _, n := range noRegisters {
			for loc := range 3 {
				if p, dep := Place(f, api.Ins{Op: op, A: n, Loc: loc}, 3); p != loc || dep != 0 {
					t.Errorf("operation %d, A %d, Loc %d: place %d, %b", op, n, loc, p, dep)
				}
			}
		}
	}
}

// TestPlaceOfNoLocs: P7.2; where there are no places, it is 0, and hangs on nothing.
func TestPlaceOfNoLocs(t *testing.T) {
	for _, op := range accesses {
		for _, f := range files() {
			for _, locs := range []int{0, -1, -2, -3, math.MinInt32, math.MinInt + 1, math.MinInt} {
				for _, a := range nearby {
					for _, loc := range []int{math.MinInt, -1, 0, 1, 2, math.MaxInt} {
						if p, dep := Place(f, api.Ins{Op: op, A: a, Loc: loc}, locs); p != 0 || dep != 0 {
							t.Errorf("operation %d, A %d, Loc %d, of %d: place %d, %b", op, a, loc, locs, p, dep)
						}
					}
				}
			}
		}
	}
}

// TestPlaceOfOthers: P7.2; what is neither a load nor a store has no place.
func TestPlaceOfOthers(t *testing.T) {
	f := File{V: [4]int64{1, 2, 3, 4}, Dep: [4]uint32{1, 2, 4, 8}}
	for _, op := range []int{
		api.OpMov, api.OpAdd, api.OpEor, api.OpAnd, api.OpDmb, api.OpIsb, api.OpCbz, api.OpCbnz,
		0, 15, -1, -5, 256 + 5, 1<<32 + 5, math.MaxInt, math.MinInt,
	} {
		for _, a := range nearby {
			if p, dep := Place(f, api.Ins{Op: op, A: a, Loc: 1}, 5); p != 0 || dep != 0 {
				t.Errorf("operation %d, A %d: place %d, %b", op, a, p, dep)
			}
		}
	}
}

// TestExample: the chapter's example: register 1 is 3: Loc 1, A 1, of two places: place 0.
func TestExample(t *testing.T) {
	f := Set(File{}, 1, 3, 1)
	if p, dep := Place(f, api.Ins{Op: api.OpLdr, A: 1, Loc: 1}, 2); p != 0 || dep != 1 {
		t.Errorf("place %d, %b", p, dep)
	}
}

// TestHangsOnNothing: P7.3; whatever is done with registers on which nothing hangs, nothing hangs on it; and register 3,
// that isn't read, may hang on anything.
func TestHangsOnNothing(t *testing.T) {
	f := File{V: [4]int64{3, -8, 1 << 40, 2}, Dep: [4]uint32{0, 0, 0, math.MaxUint32}}
	free := []int{0, 1, 2}
	for _, op := range []int{api.OpMov, api.OpAdd, api.OpEor, api.OpAnd} {
		for _, d := range free {
			for _, a := range free {
				for _, b := range free {
					f = Do(f, api.Ins{Op: op, D: d, A: a, B: b})
					if f.Dep != [4]uint32{0, 0, 0, math.MaxUint32} {
						t.Fatalf("operation %d of %d and %d in %d: hangs on %b", op, a, b, d, f.Dep)
					}
				}
			}
		}
	}
	for _, a := range free {
		if _, dep := Place(f, api.Ins{Op: api.OpStr, A: a}, 3); dep != 0 {
			t.Errorf("the place of register %d hangs on %b", a, dep)
		}
	}
}

// TestEorWithItself: P7.3; it is 0, and hangs on what the register hung on.
func TestEorWithItself(t *testing.T) {
	for _, v := range numbers {
		for _, dep := range sets {
			for a := range 4 {
				for d := range 4 {
					f := Set(File{V: [4]int64{1, 2, 3, 4}, Dep: [4]uint32{16, 32, 64, 128}}, a, v, dep)
					got := Do(f, api.Ins{Op: api.OpEor, D: d, A: a, B: a})
					if want := changed(f, d, 0, dep); got != want {
						t.Errorf("eor of register %d (%d, %b) with itself in %d: %v", a, v, dep, d, got)
					}
				}
			}
		}
	}
}

// TestChain: P7.1 and P7.3, of instructions in turn: an address that hangs on a load though its number doesn't.
func TestChain(t *testing.T) {
	f := Set(File{}, 0, 41, 1)
	for _, x := range []api.Ins{
		{Op: api.OpMov, D: 3, Imm: 1},
		{Op: api.OpEor, D: 1, A: 0, B: 0},
		{Op: api.OpAdd, D: 2, A: 1, B: 3},
		{Op: api.OpMov, D: 0, Imm: -5},
	} {
		f = Do(f, x)
	}
	if want := (File{V: [4]int64{-5, 0, 1, 1}, Dep: [4]uint32{0, 1, 1, 0}}); f != want {
		t.Errorf("%v, not %v", f, want)
	}
	if p, dep := Place(f, api.Ins{Op: api.OpLdr, A: 2, Loc: 1}, 3); p != 2 || dep != 1 {
		t.Errorf("place %d, %b", p, dep)
	}
}
