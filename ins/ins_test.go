package ins

import (
	"math"
	"slices"
	"strings"
	"testing"

	"cupola/api"
)

// row is the chapter's word on an operation, kept apart from the package's own table.
type row struct {
	op     int
	name   string
	kind   int
	fields string
}

var chapter = []row{
	{api.OpMov, "mov", 0, "D Imm"},
	{api.OpAdd, "add", 0, "D A B"},
	{api.OpEor, "eor", 0, "D A B"},
	{api.OpAnd, "and", 0, "D A B"},
	{api.OpLdr, "ldr", 1, "D Loc A"},
	{api.OpStr, "str", 2, "B Loc A"},
	{api.OpLdar, "ldar", 1, "D Loc A"},
	{api.OpStlr, "stlr", 2, "B Loc A"},
	{api.OpLdxr, "ldxr", 1, "D Loc A"},
	{api.OpStxr, "stxr", 2, "D B Loc A"},
	{api.OpDmb, "dmb", 0, "Imm"},
	{api.OpIsb, "isb", 0, ""},
	{api.OpCbz, "cbz", 0, "A Imm"},
	{api.OpCbnz, "cbnz", 0, "A Imm"},
}

func (r row) has(field string) bool {
	return slices.Contains(strings.Fields(r.fields), field)
}

// nameless are numbers that are no operation.
var nameless = []int{0, 15, 16, -1, -14, 64, 256 + 1, 1<<32 + 1, math.MaxInt, math.MinInt, math.MinInt + 1}

// sizes are numbers at the edges of registers, and of int.
var sizes = []int{math.MinInt, -1001, -2, -1, 0, 1, 2, 3, 4, 5, 1000, math.MaxInt}

// plain is an instruction with all fields 0, which each operation may have.
func plain(op int) api.Ins {
	return api.Ins{Op: op}
}

// TestName: P1.1.
func TestName(t *testing.T) {
	for _, r := range chapter {
		if got := Name(r.op); got != r.name {
			t.Errorf("Name(%d) is %q, not %q", r.op, got, r.name)
		}
	}
	for _, op := range nameless {
		if got := Name(op); got != "" {
			t.Errorf("Name(%d) is %q, not empty", op, got)
		}
	}
}

// TestKind: P1.1; the kind hangs on the operation alone.
func TestKind(t *testing.T) {
	for _, r := range chapter {
		for _, n := range sizes {
			x := api.Ins{Op: r.op, D: n, A: n, B: n, Loc: n, Imm: int64(n)}
			if got := Kind(x); got != r.kind {
				t.Errorf("Kind(%v) is %d, not %d", x, got, r.kind)
			}
		}
	}
	for _, op := range nameless {
		if got := Kind(plain(op)); got != 0 {
			t.Errorf("Kind of operation %d is %d, not 0", op, got)
		}
	}
}

// TestUses: P1.1; registers that are too high are told all the same, those below 0 aren't.
func TestUses(t *testing.T) {
	for _, r := range chapter {
		for _, a := range sizes {
			for _, b := range sizes {
				x := api.Ins{Op: r.op, D: 7, A: a, B: b, Loc: 8, Imm: 9}
				var want []int
				if r.has("A") && a >= 0 {
					want = append(want, a)
				}
				if r.has("B") && b >= 0 {
					want = append(want, b)
				}
				if got := Uses(x); !slices.Equal(got, want) {
					t.Errorf("Uses(%v) is %v, not %v", x, got, want)
				}
			}
		}
	}
	for _, op := range nameless {
		if got := Uses(api.Ins{Op: op, D: 1, A: 2, B: 3}); len(got) != 0 {
			t.Errorf("Uses of operation %d is %v, not empty", op, got)
		}
	}
}

// TestUsesIsNew: what was told once isn't changed by what is told later, nor by who holds it.
func TestUsesIsNew(t *testing.T) {
	x := api.Ins{Op: api.OpAdd, D: 1, A: 2, B: 3}
	first := Uses(x)
	first[0] = 9
	if got := Uses(x); !slices.Equal(got, []int{2, 3}) {
		t.Errorf("Uses is %v behind a change of what it told", got)
	}
}

// TestGives: P1.1; D is told whatever it is.
func TestGives(t *testing.T) {
	for _, r := range chapter {
		for _, d := range sizes {
			want := -1
			if r.has("D") {
				want = d
			}
			x := api.Ins{Op: r.op, D: d, A: 1, B: 2, Loc: 5, Imm: 6}
			if got := Gives(x); got != want {
				t.Errorf("Gives(%v) is %d, not %d", x, got, want)
			}
		}
	}
	for _, op := range nameless {
		if got := Gives(api.Ins{Op: op, D: 2}); got != -1 {
			t.Errorf("Gives of operation %d is %d, not -1", op, got)
		}
	}
}

// TestExample: the chapter's example, and one of the whole (ldr 1 -1 0).
func TestExample(t *testing.T) {
	x := api.Ins{Op: api.OpLdr, D: 1, A: 2}
	if !slices.Equal(Uses(x), []int{2}) || Gives(x) != 1 {
		t.Errorf("ldr 1 at 0 and 2: uses %v, gives %d", Uses(x), Gives(x))
	}
	x.A = api.None
	if len(Uses(x)) != 0 || Gives(x) != 1 || !May(x, 0, 1) {
		t.Errorf("ldr 1 -1 0: uses %v, gives %d, may %v", Uses(x), Gives(x), May(x, 0, 1))
	}
}

// TestMayRegisters: P1.2, of D, A and B at -1, 0, 3 and 4, and further off.
func TestMayRegisters(t *testing.T) {
	for _, r := range chapter {
		for _, n := range sizes {
			register := n >= 0 && n <= 3
			d, a, b := plain(r.op), plain(r.op), plain(r.op)
			d.D, a.A, b.B = n, n, n
			base := register || n == -1 && r.kind != 0
			for _, c := range []struct {
				x     api.Ins
				field string
				may   bool
			}{{d, "D", register}, {a, "A", base}, {b, "B", register}} {
				want := n == 0
				if r.has(c.field) {
					want = c.may
				}
				if got := May(c.x, 2, 2); got != want {
					t.Errorf("%s: May(%v) is %v", r.name, c.x, got)
				}
			}
		}
	}
}

// TestMayLoc: P1.2, of Loc at 0, below locs, at locs, and of locs of any size.
func TestMayLoc(t *testing.T) {
	for _, r := range chapter {
		for _, loc := range sizes {
			for _, locs := range sizes {
				x := plain(r.op)
				x.Loc = loc
				want := loc == 0
				if r.has("Loc") {
					want = loc >= 0 && loc < locs
				}
				if got := May(x, 2, locs); got != want {
					t.Errorf("%s: May(%v, 2, %d) is %v", r.name, x, locs, got)
				}
			}
		}
	}
}

// TestMayImm: P1.2, of Imm at its edges.
func TestMayImm(t *testing.T) {
	imms := []int64{math.MinInt64, -1001, -1000, -1, 0, 1, 2, 3, 7, 8, 1000, 1001, 1 << 32, math.MaxInt64}
	behinds := []int{math.MinInt, -1, 0, 1, 2, 7, math.MaxInt}
	for _, r := range chapter {
		for _, imm := range imms {
			for _, behind := range behinds {
				x := plain(r.op)
				x.Imm = imm
				want := imm == 0
				switch r.name {
				case "mov":
					want = imm >= -1000 && imm <= 1000
				case "dmb":
					want = imm == 0 || imm == 1 || imm == 2
				case "cbz", "cbnz":
					want = imm >= 0 && imm <= int64(behind)
				}
				if got := May(x, behind, 1); got != want {
					t.Errorf("%s: May(%v, %d, 1) is %v", r.name, x, behind, got)
				}
			}
		}
	}
}

// TestMayOrdinary: P1.2, of whole instructions, as they stand in tests.
func TestMayOrdinary(t *testing.T) {
	for _, c := range []struct {
		x    api.Ins
		want bool
	}{
		{api.Ins{Op: api.OpMov, D: 3, Imm: 1000}, true},
		{api.Ins{Op: api.OpMov, D: 3, Imm: -1001}, false},
		{api.Ins{Op: api.OpMov, D: 3, A: 1, Imm: 5}, false},
		{api.Ins{Op: api.OpMov, D: 3, A: -1, Imm: 5}, false},
		{api.Ins{Op: api.OpEor, D: 3, A: 3, B: 3}, true},
		{api.Ins{Op: api.OpEor, D: 3, A: -1, B: 3}, false},
		{api.Ins{Op: api.OpAnd, D: 3, A: 3, B: 3, Imm: 1}, false},
		{api.Ins{Op: api.OpLdar, D: 3, A: 3, Loc: 2}, true},
		{api.Ins{Op: api.OpLdar, D: 3, A: 3, Loc: 3}, false},
		{api.Ins{Op: api.OpLdxr, D: 3, A: 3, B: 1, Loc: 2}, false},
		{api.Ins{Op: api.OpStlr, A: -1, B: 3, Loc: 2}, true},
		{api.Ins{Op: api.OpStlr, A: -1, B: -1, Loc: 2}, false},
		{api.Ins{Op: api.OpStxr, D: 2, A: -1, B: 3, Loc: 2}, true},
		{api.Ins{Op: api.OpStxr, D: 4, A: -1, B: 3, Loc: 2}, false},
		{api.Ins{Op: api.OpDmb, D: 1, Imm: 1}, false},
		{api.Ins{Op: api.OpIsb}, true},
		{api.Ins{Op: api.OpIsb, Imm: 1}, false},
		{api.Ins{Op: api.OpIsb, Loc: -1}, false},
		{api.Ins{Op: api.OpCbz, A: 3, Imm: 4}, true},
		{api.Ins{Op: api.OpCbnz, A: 3, Imm: 5}, false},
		{api.Ins{Op: api.OpCbnz, A: -1, Imm: 1}, false},
		{api.Ins{Op: api.OpCbnz, B: 3, Imm: 1}, false},
	} {
		if got := May(c.x, 4, 3); got != c.want {
			t.Errorf("May(%v, 4, 3) is %v", c.x, got)
		}
	}
}

// TestMayNameless: P1.2; what has no name may not be, whatever else it holds.
func TestMayNameless(t *testing.T) {
	for _, op := range nameless {
		for _, n := range sizes {
			x := api.Ins{Op: op, D: n, A: n, B: n, Loc: n, Imm: int64(n)}
			if May(x, 8, 3) || May(plain(op), n, n) {
				t.Errorf("operation %d may be", op)
			}
		}
	}
}

// TestMayIsPlain: P1.3, and that all that the chapter lets be is let be: what may be is counted.
func TestMayIsPlain(t *testing.T) {
	const behind, locs = 3, 2
	want := map[string]int{
		"mov": 4 * 7, // of the numbers below, all but two
		"add": 64, "eor": 64, "and": 64,
		"ldr": 4 * 5 * 2, "ldar": 4 * 5 * 2, "ldxr": 4 * 5 * 2,
		"str": 4 * 5 * 2, "stlr": 4 * 5 * 2,
		"stxr": 4 * 4 * 5 * 2,
		"dmb":  3, "isb": 1,
		"cbz": 4 * 4, "cbnz": 4 * 4,
	}
	got := map[string]int{}
	near := []int{-2, -1, 0, 1, 2, 3, 4}
	for op := -1; op <= 16; op++ {
		for _, d := range near {
			for _, a := range near {
				for _, b := range near {
					for _, loc := range near {
						for _, imm := range []int64{-1001, -1000, -1, 0, 1, 2, 3, 1000, 1001} {
							x := api.Ins{Op: op, D: d, A: a, B: b, Loc: loc, Imm: imm}
							if May(x, behind, locs) {
								got[Name(op)]++
								checkPlain(t, x)
							}
						}
					}
				}
			}
		}
	}
	for name, n := range want {
		if got[name] != n {
			t.Errorf("%d of %s may be, not %d", got[name], name, n)
		}
	}
	if len(got) != len(want) {
		t.Errorf("%d operations may be, not %d", len(got), len(want))
	}
}

// checkPlain: an instruction that may be uses two registers at most, and gives one at most.
func checkPlain(t *testing.T, x api.Ins) {
	uses := Uses(x)
	if len(uses) > 2 {
		t.Errorf("%v uses %v", x, uses)
	}
	for _, n := range uses {
		if n < 0 || n > 3 {
			t.Errorf("%v uses %d, which is no register", x, n)
		}
	}
	if g := Gives(x); g < -1 || g > 3 {
		t.Errorf("%v gives %d, which is no register", x, g)
	}
}
