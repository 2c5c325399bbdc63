package order

import (
	"math"
	"slices"
	"testing"

	"cupola/rel"
)

// edges are numbers at the ends of things, and far beyond these.
var edges = []int{math.MinInt, math.MinInt32, -33, -32, -1, 0, 1, 2, 5, 6, 7, 30, 31, 32, 33, 63, 64, 65, 1 << 32, 1<<32 + 1, math.MaxInt}

// counted are all lists of n numbers from low to high, as one counts.
func counted(n, low, high int) [][]int {
	l := [][]int{{}}
	for range n {
		var longer [][]int
		for _, x := range l {
			for k := low; k <= high; k++ {
				longer = append(longer, append(slices.Clone(x), k))
			}
		}
		l = longer
	}
	return l
}

func alikeTwice(l []int) bool {
	for i, x := range l {
		if slices.Contains(l[:i], x) {
			return true
		}
	}
	return false
}

// ways are the lists that have each number from 0 to n - 1 once, in turn.
func ways(n int) [][]int {
	return slices.DeleteFunc(counted(n, 0, n-1), alikeTwice)
}

// waysOf are those of up to six things, worked out once.
func waysOf() [][][]int {
	var l [][][]int
	for n := range 7 {
		l = append(l, ways(n))
	}
	return l
}

// sizeOf is of how many things a relation is, by the words of chapter 5.
func sizeOf(r rel.Rel) int {
	if len(r) > 32 {
		return 0
	}
	return len(r)
}

// leads tells whether r has a pair, by its bits.
func leads(r rel.Rel, i, k int) bool {
	n := sizeOf(r)
	return i >= 0 && i < n && k >= 0 && k < n && (uint64(r[i])/(uint64(1)<<k))%2 == 1
}

// isLinear is the chapter's word, place by place.
func isLinear(l []int, r rel.Rel) bool {
	n := sizeOf(r)
	if len(l) != n || alikeTwice(l) {
		return false
	}
	for _, x := range l {
		if x < 0 || x >= n {
			return false
		}
	}
	for i := range n {
		for k := range n {
			if leads(r, i, k) && slices.Index(l, i) >= slices.Index(l, k) {
				return false
			}
		}
	}
	return true
}

// firstOf takes away, again and again, the least thing to which none that is left leads.
func firstOf(r rel.Rel) ([]int, bool) {
	var l []int
	n := sizeOf(r)
	for range n {
		least := -1
		for k := n - 1; k >= 0; k-- {
			led := slices.Contains(l, k)
			for i := range n {
				led = led || leads(r, i, k) && !slices.Contains(l, i)
			}
			if !led {
				least = k
			}
		}
		if least < 0 {
			return nil, false
		}
		l = append(l, least)
	}
	return l, true
}

func same(a, b [][]int) bool {
	return slices.EqualFunc(a, b, func(x, y []int) bool { return slices.Equal(x, y) })
}

// all are the relations of n things; of more than 4 there are too many.
func all(n int) []rel.Rel {
	var l []rel.Rel
	for bits := range 1 << (n * n) {
		r := make(rel.Rel, n)
		for i := range n {
			r[i] = uint32(bits>>(i*n)) & (1<<n - 1)
		}
		l = append(l, r)
	}
	return l
}

// dirty has bits set that play no part.
func dirty(r rel.Rel) rel.Rel {
	c := slices.Clone(r)
	for i := range c {
		if len(r) < 32 {
			c[i] |= uint32(0xdeadbeef) << len(r)
		}
	}
	return c
}

// mixed tells numbers that look like chance, the same on every run.
func mixed(seed int) func() uint32 {
	x := uint64(seed)*2862933555777941757 + 3037000493
	return func() uint32 {
		x = x*6364136223846793005 + 1442695040888963407
		return uint32(x >> 32)
	}
}

// shuffled are the things of n, mixed.
func shuffled(n int, next func() uint32) []int {
	l := make([]int, n)
	for i := range l {
		k := int(next() % uint32(i+1))
		l[i] = l[k]
		l[k] = i
	}
	return l
}

// along has some of the pairs of an order, so that it is acyclic: the fewer, the thinner.
func along(l []int, thin int, next func() uint32) rel.Rel {
	r := make(rel.Rel, len(l))
	for i := range l {
		for k := i + 1; k < len(l); k++ {
			if next()>>8%uint32(thin) == 0 {
				r[l[i]] |= 1 << l[k]
			}
		}
	}
	return r
}

// wide are relations of n things: acyclic ones, some of which have bits set beyond n, the same with one pair that
// leads back, and chains, rings and such where a thing leads to itself.
func wide(n int) []rel.Rel {
	var l []rel.Rel
	next := mixed(n)
	for _, thin := range []int{1, 2, 3, 5, 9, 20, 60} {
		for range 3 {
			o := shuffled(n, next)
			r := along(o, thin, next)
			l = append(l, r, dirty(r))
			if n > 1 {
				back := slices.Clone(r)
				back[o[n-1]] |= 1 << o[0]
				l = append(l, back)
			}
		}
	}
	chain, turned := make(rel.Rel, n), make(rel.Rel, n)
	for i := 1; i < n; i++ {
		chain[i-1] = 1 << i
		turned[i] = 1 << (i - 1)
	}
	l = append(l, make(rel.Rel, n), dirty(make(rel.Rel, n)), chain, turned)
	if n > 0 {
		ring, self, full := slices.Clone(chain), make(rel.Rel, n), make(rel.Rel, n)
		ring[n-1] |= 1
		self[n-1] = 1 << (n - 1)
		for i := range full {
			full[i] = math.MaxUint32
		}
		l = append(l, ring, self, full)
	}
	return l
}

// tooMany are relations of more things than may be, which stand for that of none.
func tooMany() []rel.Rel {
	var l []rel.Rel
	for _, n := range []int{33, 34, 64, 65, 1000} {
		full := make(rel.Rel, n)
		for i := range full {
			full[i] = math.MaxUint32
		}
		l = append(l, make(rel.Rel, n), full)
	}
	return l
}

// some are all relations of up to three things, and wide ones of all sizes, and such of too many things.
func some() []rel.Rel {
	l := append(tooMany(), nil)
	for n := range 4 {
		for _, r := range all(n) {
			l = append(l, r, dirty(r))
		}
	}
	for n := range 33 {
		l = append(l, wide(n)...)
	}
	return l
}

// TestAll: P6.1, of up to six numbers, unlike ones and alike ones.
func TestAll(t *testing.T) {
	lists := [][]int{
		nil, {}, {7}, {7, 5}, {5, 5}, {7, 5, 7}, {3, 2, 1}, {0, 0, 0, 0}, {9, -9, 9, -9}, {4, 3, 2, 1, 0},
		{math.MinInt, math.MaxInt, -1, 0, math.MaxInt}, {1, 2, 3, 4, 5, 6}, {6, 6, 5, 5, 4, 4}, {8, 8, 8, 8, 8, 8}, {60, -50, 40, -30, 20, -10},
	}
	places := waysOf()
	for _, l := range lists {
		var want [][]int
		for _, p := range places[len(l)] {
			var o []int
			for _, at := range p {
				o = append(o, l[at])
			}
			want = append(want, o)
		}
		if got := All(l); !same(got, want) {
			t.Errorf("All(%v) is %v", l, got)
		}
	}
}

// TestAllMany: P6.1; how many there are, at the bound, and beyond it.
func TestAllMany(t *testing.T) {
	for n, want := range []int{1, 1, 2, 6, 24, 120, 720} {
		if got := All(make([]int, n)); len(got) != want {
			t.Errorf("of %d there are %d", n, len(got))
		}
	}
	for _, n := range []int{7, 8, 24, 31, 32, 33, 34, 64, 1000} {
		if got := All(make([]int, n)); len(got) != 0 {
			t.Errorf("of %d there are %d", n, len(got))
		}
	}
}

// TestFirst: P6.2, of small and of wide ones.
func TestFirst(t *testing.T) {
	for _, r := range append(some(), all(4)...) {
		want, is := firstOf(r)
		got, ok := First(r)
		if ok != is || !slices.Equal(got, want) {
			t.Fatalf("First(%v) is %v, %v, not %v, %v", r, got, ok, want, is)
		}
	}
}

// TestFirstLeast: P6.2; none that fits is less than First, which says what 'least at each place' is.
func TestFirstLeast(t *testing.T) {
	four := ways(4)
	for _, r := range all(4) {
		at := slices.IndexFunc(four, func(l []int) bool { return isLinear(l, r) })
		got, ok := First(r)
		if ok != (at >= 0) || ok && !slices.Equal(got, four[at]) || !ok && len(got) != 0 {
			t.Fatalf("First(%v) is %v, %v", r, got, ok)
		}
	}
}

// TestLinear: P6.2, of all relations of up to three things, some of four, and of wide ones up to the bound.
func TestLinear(t *testing.T) {
	var l []rel.Rel
	for n := range 4 {
		l = append(l, all(n)...)
	}
	for i, r := range all(4) {
		if i%7 == 0 {
			l = append(l, r)
		}
	}
	for n := range 7 {
		l = append(l, wide(n)...)
	}
	places := waysOf()
	for _, r := range l {
		var want [][]int
		for _, o := range places[len(r)] {
			if isLinear(o, r) {
				want = append(want, o)
			}
		}
		for _, like := range []rel.Rel{r, dirty(r)} {
			if got := Linear(like); !same(got, want) {
				t.Fatalf("Linear(%v) is %v, not %v", like, got, want)
			}
		}
	}
}

// TestLinearMany: P6.2; how many there are at the bound; nothing beyond it, of chains either.
func TestLinearMany(t *testing.T) {
	if got := Linear(rel.New(6)); len(got) != 720 {
		t.Errorf("of 6 there are %d", len(got))
	}
	for n := 7; n <= 32; n++ {
		for _, r := range wide(n) {
			if got := Linear(r); len(got) != 0 {
				t.Fatalf("of %d things there are %d", n, len(got))
			}
		}
	}
}

// TestNoThings: of none, and of too many, which stand for none, there is one order, without things.
func TestNoThings(t *testing.T) {
	for _, r := range append(tooMany(), nil, rel.Rel{}) {
		if l, ok := First(r); !ok || len(l) != 0 {
			t.Errorf("First of %d things is %v, %v", len(r), l, ok)
		}
		if l := Linear(r); len(l) != 1 || len(l[0]) != 0 {
			t.Errorf("Linear of %d things is %v", len(r), l)
		}
		if !Fits(nil, r) || !Fits([]int{}, r) || Fits([]int{0}, r) || Fits(make([]int, len(r)+1), r) {
			t.Errorf("Fits of %d things", len(r))
		}
	}
	if l := shuffled(33, mixed(1)); Fits(l, make(rel.Rel, 33)) {
		t.Error("33 things fit")
	}
}

// TestFits: P6.2; of all relations of up to three things all lists of numbers from -1 to one beyond, of any length.
func TestFits(t *testing.T) {
	for n := range 4 {
		var lists [][]int
		for long := range n + 2 {
			lists = append(lists, counted(long, -1, n)...)
		}
		for _, r := range all(n) {
			for _, l := range lists {
				want := isLinear(l, r)
				if Fits(l, r) != want || Fits(l, dirty(r)) != want {
					t.Fatalf("Fits(%v, %v) isn't %v", l, r, want)
				}
			}
		}
	}
}

// TestFitsWide: P6.2; an order that fits, and such that are unlike it at one or two places.
func TestFitsWide(t *testing.T) {
	for n := range 33 {
		for _, r := range wide(n) {
			l, ok := firstOf(r)
			if !ok {
				l = shuffled(n, mixed(n))
			}
			if Fits(l, r) != ok || Fits(append(slices.Clone(l), 0), r) || n > 0 && Fits(l[1:], r) {
				t.Fatalf("Fits(%v, %v)", l, r)
			}
			for i := range l {
				wrong := slices.Clone(l)
				k := (i*7 + 3) % n
				wrong[i], wrong[k] = wrong[k], wrong[i]
				if Fits(wrong, r) != isLinear(wrong, r) {
					t.Fatalf("Fits(%v, %v)", wrong, r)
				}
				for _, x := range edges {
					wrong := slices.Clone(l)
					wrong[i] = x
					if Fits(wrong, r) != isLinear(wrong, r) {
						t.Fatalf("Fits(%v, %v)", wrong, r)
					}
				}
			}
		}
	}
}

// pairsOf are what Of must have: of each place each one behind it, as far as they are things.
func pairsOf(n int, l []int) rel.Rel {
	if n < 0 || n > 32 {
		n = 0
	}
	r := make(rel.Rel, n)
	for i, x := range l {
		for _, y := range l[i+1:] {
			if x >= 0 && x < n && y >= 0 && y < n {
				r[x] |= 1 << y
			}
		}
	}
	return r
}

// TestOf: P6.2, of short lists, with alike numbers and such that are no things.
func TestOf(t *testing.T) {
	for n := range 5 {
		for long := range 5 {
			for _, l := range counted(long, -1, 4) {
				if got := Of(n, l); !slices.Equal(got, pairsOf(n, l)) {
					t.Fatalf("Of(%d, %v) is %v", n, l, got)
				}
			}
		}
	}
}

// TestOfWide: P6.2; of all sizes, with numbers of things that may not be, too, and long lists.
func TestOfWide(t *testing.T) {
	lists := [][]int{nil, edges, {31, 0}, {0, 31}, {31, 31}, {32, 31, 30}, {5, 5, 5}}
	for n := range 34 {
		lists = append(lists, shuffled(n, mixed(n)), append(shuffled(n, mixed(n)), shuffled(n, mixed(n+1))...))
	}
	for _, l := range lists {
		sizes := slices.Clone(edges)
		for n := range 34 {
			sizes = append(sizes, n)
		}
		for _, n := range sizes {
			if got := Of(n, l); !slices.Equal(got, pairsOf(n, l)) {
				t.Fatalf("Of(%d, %v) is %v", n, l, got)
			}
		}
	}
	long := make([]int, 200000)
	for i := range long {
		long[i] = (i*i + i/7) % 40
	}
	full := rel.Cross(32, math.MaxUint32, math.MaxUint32)
	if got := Of(32, append(long, append(shuffled(32, mixed(3)), shuffled(32, mixed(4))...)...)); !rel.Same(got, full) {
		t.Error("of a long list")
	}
}

// TestExample: the chapter's example.
func TestExample(t *testing.T) {
	r := rel.Put(rel.New(3), 1, 0)
	if l, ok := First(r); !ok || !slices.Equal(l, []int{1, 0, 2}) {
		t.Error(l)
	}
	if l := Linear(r); !same(l, [][]int{{1, 0, 2}, {1, 2, 0}, {2, 1, 0}}) {
		t.Error(l)
	}
}

// TestFollows: P6.3; an order just if it is acyclic; all fit; the first one is First.
func TestFollows(t *testing.T) {
	for _, r := range append(some(), all(4)...) {
		first, ok := First(r)
		if ok != rel.Acyclic(r) || ok && !Fits(first, r) || !ok && len(first) != 0 {
			t.Fatalf("First(%v) is %v, %v", r, first, ok)
		}
		if sizeOf(r) > 6 {
			continue
		}
		l := Linear(r)
		if ok != (len(l) > 0) || ok && !slices.Equal(l[0], first) {
			t.Fatalf("First(%v) is %v, Linear %v", r, first, l)
		}
		for _, o := range l {
			if !Fits(o, r) {
				t.Fatalf("%v doesn't fit %v", o, r)
			}
		}
	}
}

// TestFollowsOf: P6.3, of orders as relations: such a one has just the order of which it is; that of First has all
// pairs of what it is the first order of.
func TestFollowsOf(t *testing.T) {
	for n := range 7 {
		for _, l := range ways(n) {
			r := Of(n, l)
			if got := Linear(r); !same(got, [][]int{l}) || !Fits(l, r) || !rel.Same(rel.Plus(r), r) {
				t.Fatalf("Linear(Of(%v)) is %v", l, got)
			}
		}
	}
	for _, r := range some() {
		if first, ok := First(r); ok {
			o := Of(len(first), first)
			if !rel.Same(rel.Or(o, r), o) {
				t.Fatalf("%v hasn't all pairs of %v", first, r)
			}
		}
	}
}

// TestEnds: P1; of 32 things, of which any two lead to each other, it is told at once that there is no order.
func TestEnds(t *testing.T) {
	for i := range 32 {
		for k := range 32 {
			r := rel.Put(rel.Put(rel.New(32), i, k), k, i)
			if l, ok := First(r); ok || len(l) != 0 {
				t.Fatalf("%d and %d: %v", i, k, l)
			}
		}
	}
}

// TestGivenStays: R3; no call changes what it is given, and no answer shares anything with it, or with itself.
func TestGivenStays(t *testing.T) {
	room := append(make([]int, 0, 20), 4, 1, 3, 0)
	bits := append(make(rel.Rel, 0, 20), 0xf0000002, 0x80000000, 0x10000003, 0xfffffff0)
	numbers, pairs := slices.Clone(room[:20]), slices.Clone(bits[:20])
	calls := []func() [][]int{
		func() [][]int { return All(room) },
		func() [][]int { return Linear(bits) },
		func() [][]int { return Linear(bits[:3]) },
		func() [][]int { l, _ := First(bits); return [][]int{l} },
		func() [][]int { l, _ := First(bits[:2]); return [][]int{l} },
	}
	for i, call := range calls {
		want := call()
		got := call()
		if len(got) == 0 {
			t.Fatalf("call %d answers nothing", i)
		}
		for k, l := range got {
			if !slices.Equal(l, want[k]) {
				t.Fatalf("call %d: %v is %v now", i, want[k], l)
			}
			for x := range l[:cap(l)] {
				l[:cap(l)][x] = -77
			}
		}
		if !same(call(), want) {
			t.Fatalf("call %d answers another thing", i)
		}
	}
	Fits(room, bits)
	o := Of(5, room)
	for i := range o {
		o[i] = math.MaxUint32
	}
	if !slices.Equal(Of(5, room), pairsOf(5, room)) {
		t.Error("Of isn't new each time")
	}
	if !slices.Equal(room[:20], numbers) || !slices.Equal(bits[:20], pairs) {
		t.Fatalf("what was given is now %v, %v", room, bits)
	}
}
