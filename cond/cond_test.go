package cond

import (
	"encoding/binary"
	"fmt"
	"math"
	"reflect"
	"slices"
	"strings"
	"testing"

	"cupola/api"
)

// outcome is one of two threads and two places, all of its numbers unlike, so that a wrong place is seen.
var outcome = api.Outcome{Regs: [][]int64{{10, 11, 12}, {20}}, Mem: []int64{30, 31}}

// edges are places and threads in lists, at their ends, and far beyond these.
var edges = []int{math.MinInt, math.MinInt + 1, -3, -2, -1, 0, 1, 2, 3, 4, 1 << 32, math.MaxInt - 1, math.MaxInt}

func regs(threads ...[]int64) [][]int64 {
	return threads
}

func nums(n ...int64) []int64 {
	return n
}

func some(atoms ...[]Atom) [][]Atom {
	return atoms
}

// deep is a copy by hand, to hold against what may have changed.
func deep(l []api.Outcome) []api.Outcome {
	c := make([]api.Outcome, len(l))
	for i, o := range l {
		c[i].Mem = append([]int64{}, o.Mem...)
		c[i].Regs = make([][]int64, len(o.Regs))
		for j, r := range o.Regs {
			c[i].Regs[j] = append([]int64{}, r...)
		}
	}
	return c
}

// same holds nil and empty for the same.
func same(a, b []api.Outcome) bool {
	return slices.EqualFunc(a, b, func(x, y api.Outcome) bool {
		return slices.Equal(x.Mem, y.Mem) && slices.EqualFunc(x.Regs, y.Regs, slices.Equal[[]int64])
	})
}

// key is a text that stands in the order of texts as its outcome does in the chapter's: a byte 1 ahead of each item,
// a byte 0 at a list's end, and numbers from the lowest on.
func key(o api.Outcome) string {
	var b []byte
	numbers := func(l []int64) {
		for _, n := range l {
			b = append(b, 1)
			b = binary.BigEndian.AppendUint64(b, uint64(n)^1<<63)
		}
		b = append(b, 0)
	}
	for _, r := range o.Regs {
		b = append(b, 1)
		numbers(r)
	}
	b = append(b, 0)
	numbers(o.Mem)
	return string(b)
}

// lists are all of up to most items, of these.
func lists[T any](most int, items ...T) [][]T {
	all := [][]T{nil}
	for from, n := 0, 0; n < most; n++ {
		to := len(all)
		for _, l := range all[from:to] {
			for _, x := range items {
				all = append(all, append(slices.Clone(l), x))
			}
		}
		from = to
	}
	return all
}

// smallOutcomes are all of up to two threads of up to two registers, and of up to two places.
func smallOutcomes() []api.Outcome {
	var all []api.Outcome
	for _, r := range lists(2, lists(2, -1, int64(2))...) {
		for _, m := range lists(2, -1, int64(2)) {
			all = append(all, api.Outcome{Regs: r, Mem: m})
		}
	}
	return all
}

// smallConds are all of up to two of Some, of up to two atoms, each of a register, of memory, or of nothing there is.
func smallConds() []Cond {
	atoms := []Atom{{Val: 2}, {Thread: 1, At: 1, Val: -1, Not: true}, {Thread: -1, Val: 2}, {Thread: 5}}
	var all []Cond
	for _, s := range lists(2, lists(2, atoms...)...) {
		all = append(all, Cond{Some: s})
	}
	return all
}

// TestHolds: P4.1, of a register and of memory, each with Not and without.
func TestHolds(t *testing.T) {
	for _, c := range []struct {
		a  Atom
		is int64
	}{
		{Atom{Thread: 0, At: 0}, 10}, {Atom{Thread: 0, At: 1}, 11}, {Atom{Thread: 0, At: 2}, 12}, {Atom{Thread: 1, At: 0}, 20},
		{Atom{Thread: -1, At: 0}, 30}, {Atom{Thread: -1, At: 1}, 31},
		{Atom{Thread: 0, At: 3}, 0}, {Atom{Thread: 1, At: 1}, 0}, {Atom{Thread: 1, At: 2}, 0}, {Atom{Thread: 0, At: -1}, 0},
		{Atom{Thread: 2, At: 0}, 0}, {Atom{Thread: -2, At: 0}, 0}, {Atom{Thread: -2, At: 1}, 0},
		{Atom{Thread: -1, At: 2}, 0}, {Atom{Thread: -1, At: -1}, 0},
	} {
		for _, val := range []int64{0, 10, 11, 12, 20, 30, 31, 1 << 32, math.MinInt64, math.MaxInt64} {
			c.a.Val, c.a.Not = val, false
			if got := Holds(c.a, outcome); got != (val == c.is) {
				t.Errorf("Holds(%v) is %v", c.a, got)
			}
			c.a.Not = true
			if got := Holds(c.a, outcome); got != (val != c.is) {
				t.Errorf("Holds(%v) is %v", c.a, got)
			}
		}
	}
}

// TestHoldsNowhere: P4.1; what there is none of is 0, at places of any size, also in an outcome of nothing.
func TestHoldsNowhere(t *testing.T) {
	for _, o := range []api.Outcome{outcome, {}, {Regs: regs(nil)}, {Regs: regs(nums()), Mem: nums()}, {Mem: nums(1)}} {
		for _, thread := range edges {
			for _, at := range edges {
				var is int64
				if thread == -1 && at >= 0 && at < len(o.Mem) {
					is = o.Mem[at]
				}
				if thread >= 0 && thread < len(o.Regs) && at >= 0 && at < len(o.Regs[thread]) {
					is = o.Regs[thread][at]
				}
				if !Holds(Atom{thread, at, is, false}, o) || Holds(Atom{thread, at, is, true}, o) {
					t.Errorf("%d of %d isn't %d in %v", at, thread, is, o)
				}
				if Holds(Atom{thread, at, is + 1, false}, o) || !Holds(Atom{thread, at, is + 1, true}, o) {
					t.Errorf("%d of %d is %d in %v", at, thread, is+1, o)
				}
			}
		}
	}
}

// TestHoldsWide: P4.1; all 64 bits of a number count.
func TestHoldsWide(t *testing.T) {
	for bit := range 64 {
		n := int64(1) << bit
		o := api.Outcome{Regs: regs(nums(n)), Mem: nums(^n)}
		if !Holds(Atom{Val: n}, o) || Holds(Atom{}, o) || !Holds(Atom{Thread: -1, Val: ^n}, o) || Holds(Atom{Thread: -1, Val: -1}, o) {
			t.Errorf("bit %d", bit)
		}
	}
}

// TestEval: P4.1, whatever All is.
func TestEval(t *testing.T) {
	yes, mem, no := Atom{At: 1, Val: 11}, Atom{Thread: -1, Val: 30}, Atom{Thread: 1, Val: 20, Not: true}
	for i, c := range []struct {
		some [][]Atom
		is   bool
	}{
		{nil, false}, {some(), false}, {some(nil), true}, {some([]Atom{}), true},
		{some([]Atom{yes}), true}, {some([]Atom{no}), false}, {some([]Atom{mem}), true},
		{some([]Atom{yes, mem}), true}, {some([]Atom{yes, no}), false}, {some([]Atom{no, yes}), false},
		{some([]Atom{yes, mem, no}), false}, {some([]Atom{yes, no, mem}), false},
		{some([]Atom{yes}, []Atom{no}), true}, {some([]Atom{no}, []Atom{yes}), true}, {some([]Atom{no}, []Atom{no}), false},
		{some([]Atom{no}, nil), true}, {some(nil, []Atom{no}), true},
		{some([]Atom{yes, no}, []Atom{no, mem}), false}, {some([]Atom{yes, no}, []Atom{no}, []Atom{mem, yes}), true},
	} {
		for _, all := range []bool{false, true} {
			if got := Eval(Cond{All: all, Some: c.some}, outcome); got != c.is {
				t.Errorf("%d: Eval of %v is %v", i, c.some, got)
			}
		}
	}
}

// TestVerdict: P4.1, of lists in which the one that counts stands anywhere, and of none.
func TestVerdict(t *testing.T) {
	yes, no := api.Outcome{Mem: nums(1)}, api.Outcome{Mem: nums(2)}
	is1 := some([]Atom{{Thread: -1, Val: 1}})
	for _, l := range lists(4, yes, no) {
		holds := 0
		for _, o := range l {
			if o.Mem[0] == 1 {
				holds++
			}
		}
		if got := Verdict(Cond{Some: is1}, l); got != (holds > 0) {
			t.Errorf("exists of %v is %v", l, got)
		}
		if got := Verdict(Cond{All: true, Some: is1}, l); got != (holds == len(l)) {
			t.Errorf("forall of %v is %v", l, got)
		}
		if Verdict(Cond{}, l) || Verdict(Cond{All: true}, l) != (len(l) == 0) {
			t.Errorf("a condition of none, of %v", l)
		}
		if Verdict(Cond{Some: some(nil)}, l) != (len(l) > 0) || !Verdict(Cond{All: true, Some: some(nil)}, l) {
			t.Errorf("a condition that is true, of %v", l)
		}
	}
	if Verdict(Cond{Some: is1}, []api.Outcome{}) || !Verdict(Cond{All: true, Some: is1}, []api.Outcome{}) {
		t.Error("Verdict of an empty list")
	}
}

// TestText: P4.2, with the chapter's example.
func TestText(t *testing.T) {
	for _, c := range []struct {
		c    Cond
		text string
	}{
		{Cond{Some: some([]Atom{{0, 1, 5, false}, {-1, 0, 2, true}})}, "exists 0:1=5&x0!=2"},
		{Cond{}, "exists"}, {Cond{All: true}, "forall"}, {Cond{All: true, Some: some()}, "forall"},
		{Cond{Some: some(nil)}, "exists true"}, {Cond{All: true, Some: some([]Atom{})}, "forall true"},
		{Cond{Some: some(nil, nil)}, "exists true | true"},
		{Cond{All: true, Some: some([]Atom{{0, 0, 0, true}})}, "forall 0:0!=0"},
		{Cond{Some: some([]Atom{{2, 3, -7, false}}, []Atom{{-1, 1, -1000, true}})}, "exists 2:3=-7 | x1!=-1000"},
		{Cond{Some: some([]Atom{{-1, -1, -1, false}, {-2, -1, 0, false}, {1, -2, 1, true}})}, "exists x-1=-1&-2:-1=0&1:-2!=1"},
		{Cond{All: true, Some: some(nil, []Atom{{1, 2, 3, false}, {-1, 4, 5, false}}, nil, []Atom{{6, 7, 8, true}})},
			"forall true | 1:2=3&x4=5 | true | 6:7!=8"},
		{Cond{Some: some([]Atom{{10, 100, math.MaxInt64, false}, {math.MinInt64, math.MaxInt64, math.MinInt64, true}})},
			"exists 10:100=9223372036854775807&-9223372036854775808:9223372036854775807!=-9223372036854775808"},
	} {
		if got := Text(c.c); got != c.text {
			t.Errorf("Text(%v) is %q, not %q", c.c, got, c.text)
		}
	}
}

func atomText(a Atom) string {
	who, sign := fmt.Sprintf("%d:%d", a.Thread, a.At), "="
	if a.Thread == -1 {
		who = fmt.Sprintf("x%d", a.At)
	}
	if a.Not {
		sign = "!="
	}
	return fmt.Sprintf("%s%s%d", who, sign, a.Val)
}

// TestTextAtoms: P4.2, of threads, places and numbers of any size.
func TestTextAtoms(t *testing.T) {
	for _, thread := range edges {
		for _, at := range edges {
			for _, val := range edges {
				for _, not := range []bool{false, true} {
					a := Atom{thread, at, int64(val), not}
					if got, want := Text(Cond{Some: some([]Atom{a})}), "exists "+atomText(a); got != want {
						t.Errorf("Text of %v is %q, not %q", a, got, want)
					}
				}
			}
		}
	}
}

// TestTextSmall: P4.2, of all small conditions.
func TestTextSmall(t *testing.T) {
	for _, c := range smallConds() {
		var parts []string
		for _, atoms := range c.Some {
			part := "true"
			for i, a := range atoms {
				if i == 0 {
					part = atomText(a)
				} else {
					part += "&" + atomText(a)
				}
			}
			parts = append(parts, " "+part)
		}
		rest := strings.Join(parts, " |")
		if got := Text(c); got != "exists"+rest {
			t.Errorf("Text(%v) is %q", c, got)
		}
		c.All = true
		if got := Text(c); got != "forall"+rest {
			t.Errorf("Text(%v) is %q", c, got)
		}
	}
}

// TestCompareRising: P4.3, of outcomes that rise as they stand here, each against each.
func TestCompareRising(t *testing.T) {
	rising := []api.Outcome{
		{},
		{Mem: nums(math.MinInt64)},
		{Mem: nums(math.MinInt64, math.MaxInt64)},
		{Mem: nums(-1)},
		{Mem: nums(0)},
		{Mem: nums(0, 0)},
		{Mem: nums(0, 1)},
		{Mem: nums(1 << 32)},
		{Mem: nums(math.MaxInt64)},
		{Regs: regs(nil)},
		{Regs: regs(nil), Mem: nums(5)},
		{Regs: regs(nil, nil)},
		{Regs: regs(nil, nums(9))},
		{Regs: regs(nums(math.MinInt64))},
		{Regs: regs(nums(-1)), Mem: nums(9)},
		{Regs: regs(nums(1))},
		{Regs: regs(nums(1)), Mem: nums(9)},
		{Regs: regs(nums(1), nil)},
		{Regs: regs(nums(1), nums(7))},
		{Regs: regs(nums(1, -5))},
		{Regs: regs(nums(1, -5), nums(0)), Mem: nums(8)},
		{Regs: regs(nums(1, -5), nums(1)), Mem: nums(3)},
		{Regs: regs(nums(1, 2), nums(0))},
		{Regs: regs(nums(2))},
		{Regs: regs(nums(10))},
		{Regs: regs(nums(math.MaxInt64))},
	}
	for i, a := range rising {
		for j, b := range rising {
			want := 0
			if i < j {
				want = -1
			}
			if i > j {
				want = 1
			}
			if got := Compare(a, deep([]api.Outcome{b})[0]); got != want {
				t.Errorf("Compare(%v, %v) is %d, not %d", a, b, got, want)
			}
		}
	}
}

// TestCompareSmall: P4.3, of all small outcomes, each against each.
func TestCompareSmall(t *testing.T) {
	all := smallOutcomes()
	keys := make([]string, len(all))
	for i, o := range all {
		keys[i] = key(o)
	}
	for i, a := range all {
		for j, b := range all {
			if got, want := Compare(a, b), strings.Compare(keys[i], keys[j]); got != want {
				t.Fatalf("Compare(%v, %v) is %d, not %d", a, b, got, want)
			}
		}
	}
}

// TestCompareEmpty: P4.3, with R2; but a thread of no registers is a thread.
func TestCompareEmpty(t *testing.T) {
	for _, c := range []struct {
		a, b api.Outcome
		is   int
	}{
		{api.Outcome{}, api.Outcome{Regs: regs(), Mem: nums()}, 0},
		{api.Outcome{}, api.Outcome{Regs: make([][]int64, 0, 4), Mem: make([]int64, 0, 4)}, 0},
		{api.Outcome{Regs: regs(nil, nums(1))}, api.Outcome{Regs: regs(nums(), nums(1))}, 0},
		{api.Outcome{}, api.Outcome{Regs: regs(nil)}, -1},
		{api.Outcome{Regs: regs(nums())}, api.Outcome{Mem: nums(1)}, 1},
	} {
		if got := Compare(c.a, c.b); got != c.is {
			t.Errorf("Compare(%v, %v) is %d", c.a, c.b, got)
		}
		if got := Compare(c.b, c.a); got != -c.is {
			t.Errorf("Compare(%v, %v) is %d", c.b, c.a, got)
		}
	}
}

// shuffled is l in another order, each item as often as times says, the same on every run.
func shuffled(l []api.Outcome, times, step int) []api.Outcome {
	var out []api.Outcome
	for i := range len(l) * times {
		out = append(out, l[i*step%len(l)])
	}
	return out
}

// TestSet: P4.3, of lists of any order in which outcomes stand often.
func TestSet(t *testing.T) {
	all := smallOutcomes()
	want := deep(all)
	slices.SortFunc(want, func(a, b api.Outcome) int { return strings.Compare(key(a), key(b)) })
	for _, step := range []int{1, len(all) - 1, 2, 5, 11, 101} { // each without a divisor in common with the 399 outcomes, so that each comes
		for times := 1; times < 4; times++ {
			l := shuffled(all, times, step)
			before := deep(l)
			if got := Set(l); !same(got, want) {
				t.Errorf("Set with step %d, each %d times, has %d outcomes, not %d", step, times, len(got), len(want))
			}
			if !same(l, before) {
				t.Errorf("Set with step %d changed what it was given", step)
			}
		}
	}
	if got := Set(want); !same(got, want) {
		t.Error("Set of a set is another")
	}
}

// TestSetFew: P4.3, of none and of all lists of few outcomes.
func TestSetFew(t *testing.T) {
	if len(Set(nil)) != 0 || len(Set([]api.Outcome{})) != 0 {
		t.Error("Set of none")
	}
	items := []api.Outcome{{}, {Mem: nums(3)}, {Regs: regs(nil)}, {Regs: regs(nums(1), nums(2)), Mem: nums(3)}}
	for _, l := range lists(4, items...) {
		var want []api.Outcome
		for _, o := range items { // they rise
			if slices.ContainsFunc(l, func(x api.Outcome) bool { return reflect.DeepEqual(x, o) }) {
				want = append(want, o)
			}
		}
		if got := Set(l); !same(got, want) {
			t.Errorf("Set(%v) is %v, not %v", l, got, want)
		}
	}
}

// TestSetEmpty: P4.3, with R2: what is unlike in nil and empty alone stands once.
func TestSetEmpty(t *testing.T) {
	l := []api.Outcome{{}, {Regs: regs(nil)}, {Regs: regs(), Mem: nums()}, {Regs: regs(nums())}, {Mem: nums()}}
	if got := Set(l); !same(got, []api.Outcome{{}, {Regs: regs(nil)}}) {
		t.Errorf("Set(%v) is %v", l, got)
	}
}

// TestSetShares: R3; nothing of a set is shared with what was given, nor with another of it.
func TestSetShares(t *testing.T) {
	one, two := nums(1, 2), nums(3)
	threads := regs(one, one, two)
	l := []api.Outcome{{Regs: threads, Mem: one}, {Regs: threads, Mem: two}, {Regs: threads[:2], Mem: one[:1]}, {Mem: one}}
	before := deep(l)
	got := Set(l)
	if len(got) != 4 {
		t.Fatalf("Set has %d outcomes", len(got))
	}
	next := int64(100)
	mark := func(list []int64) {
		for i := range list {
			list[i] = next
			next++
		}
	}
	for i := range got {
		for j := range got[i].Regs {
			mark(got[i].Regs[j])
			got[i].Regs[j] = append(got[i].Regs[j], -1)
		}
		mark(got[i].Mem)
		got[i].Mem = append(got[i].Mem, -1)
	}
	if !same(l, before) {
		t.Errorf("what was given is now %v", l)
	}
	seen := map[int64]int{}
	for _, o := range got {
		for _, list := range append(slices.Clone(o.Regs), o.Mem) {
			for _, n := range list[:len(list)-1] {
				seen[n]++
			}
			if list[len(list)-1] != -1 {
				t.Errorf("what was put behind is gone: %v", list)
			}
		}
	}
	if len(seen) != int(next-100) {
		t.Errorf("of %d numbers %d are left", next-100, len(seen))
	}
}

// opposite is the condition of what c's is not, of one for all, and of all for one: of each of Some an atom is turned.
func opposite(c Cond) Cond {
	ways := [][]Atom{nil}
	for _, atoms := range c.Some {
		var more [][]Atom
		for _, w := range ways {
			for _, a := range atoms {
				a.Not = !a.Not
				more = append(more, append(slices.Clone(w), a))
			}
		}
		ways = more
	}
	return Cond{All: !c.All, Some: ways}
}

// outcomeLists are some in which small conditions hold of all, of none, and of some.
func outcomeLists() [][]api.Outcome {
	return lists(3,
		api.Outcome{},
		api.Outcome{Regs: regs(nums(2), nums(0, -1)), Mem: nums(2)},
		api.Outcome{Regs: regs(nums(2), nums(0, 7)), Mem: nums(5)},
		api.Outcome{Regs: regs(nums(1), nums(0, -1)), Mem: nums(2)})
}

// TestOpposite: P4.4, of all small conditions.
func TestOpposite(t *testing.T) {
	for _, c := range smallConds() {
		other := opposite(c)
		for _, l := range outcomeLists() {
			if Verdict(c, l) == Verdict(other, l) {
				t.Fatalf("%s and %s are alike of %v", Text(c), Text(other), l)
			}
		}
	}
}

// TestVerdictOfSet: P4.4; neither how often outcomes stand in a list nor in which order is seen in a verdict.
func TestVerdictOfSet(t *testing.T) {
	for _, c := range smallConds() {
		for _, all := range []bool{false, true} {
			c.All = all
			for _, l := range outcomeLists() {
				turned := slices.Clone(l)
				slices.Reverse(turned)
				is := Verdict(c, l)
				if Verdict(c, Set(l)) != is || Verdict(c, turned) != is || Verdict(c, append(turned, l...)) != is {
					t.Fatalf("%s isn't always %v of %v", Text(c), is, l)
				}
			}
		}
	}
}

// TestGivenStays: R3; no call changes a condition or an outcome.
func TestGivenStays(t *testing.T) {
	c := Cond{All: true, Some: some([]Atom{{0, 1, 11, false}, {-1, 0, 30, false}}, nil, []Atom{{1, 0, 5, true}})}
	atoms := Cond{All: true, Some: some(slices.Clone(c.Some[0]), nil, slices.Clone(c.Some[2]))}
	l := []api.Outcome{outcome, {}, outcome, {Mem: nums(1)}}
	before := deep(l)
	Eval(c, l[0])
	Verdict(c, l)
	Text(c)
	Compare(l[0], l[3])
	Set(l)
	if !reflect.DeepEqual(c, atoms) || !same(l, before) {
		t.Errorf("now there are %v and %v", c, l)
	}
}
