package rel

import (
	"math"
	"slices"
	"testing"

	"cupola/api"
)

// edges are things of relations, at their ends, and far beyond these.
var edges = []int{math.MinInt, math.MinInt32, -33, -32, -31, -2, -1, 0, 1, 2, 3, 4, 30, 31, 32, 33, 63, 64, 65, 1 << 32, 1<<32 + 1, math.MaxInt}

// plain is a relation told apart from Rel: of how many things it is, and which pairs it has.
type plain struct {
	n     int
	pairs map[[2]int]bool
}

func none() plain {
	return plain{0, map[[2]int]bool{}}
}

// plainOf reads a relation as the chapter's words say, place by place.
func plainOf(a Rel) plain {
	if len(a) > 32 {
		return none()
	}
	return where(len(a), func(i, k int) bool { return (uint64(a[i])/(uint64(1)<<k))%2 == 1 })
}

// where has the pairs of n things of which is holds.
func where(n int, is func(i, k int) bool) plain {
	p := plain{n, map[[2]int]bool{}}
	for i := 0; i < n; i++ {
		for k := 0; k < n; k++ {
			if is(i, k) {
				p.pairs[[2]int{i, k}] = true
			}
		}
	}
	return p
}

func (p plain) has(i, k int) bool {
	return p.pairs[[2]int{i, k}]
}

func (p plain) or(q plain) plain {
	if p.n != q.n {
		return none()
	}
	return where(p.n, func(i, k int) bool { return p.has(i, k) || q.has(i, k) })
}

func (p plain) and(q plain) plain {
	if p.n != q.n {
		return none()
	}
	return where(p.n, func(i, k int) bool { return p.has(i, k) && q.has(i, k) })
}

func (p plain) seq(q plain) plain {
	if p.n != q.n {
		return none()
	}
	return where(p.n, func(i, k int) bool {
		for j := 0; j < p.n; j++ {
			if p.has(i, j) && q.has(j, k) {
				return true
			}
		}
		return false
	})
}

func (p plain) inv() plain {
	return where(p.n, func(i, k int) bool { return p.has(k, i) })
}

// plus looks from each thing on at all that can be come to.
func (p plain) plus() plain {
	out := where(p.n, func(i, k int) bool { return false })
	for i := 0; i < p.n; i++ {
		look := []int{i}
		for len(look) > 0 {
			j := look[0]
			look = look[1:]
			for k := 0; k < p.n; k++ {
				if p.has(j, k) && !out.has(i, k) {
					out.pairs[[2]int{i, k}] = true
					look = append(look, k)
				}
			}
		}
	}
	return out
}

func (p plain) only(from, to uint32) plain {
	return where(p.n, func(i, k int) bool { return p.has(i, k) && from>>i&1 == 1 && to>>k&1 == 1 })
}

// acyclic takes things away to which none is left that leads; what can't be taken away leads back.
func (p plain) acyclic() bool {
	gone := map[int]bool{}
	for range p.n {
		for k := 0; k < p.n; k++ {
			led := false
			for i := 0; i < p.n; i++ {
				led = led || !gone[i] && p.has(i, k)
			}
			if !led {
				gone[k] = true
			}
		}
	}
	return len(gone) == p.n
}

// rel is the one with just these pairs, and no bits beyond.
func (p plain) rel() Rel {
	r := make(Rel, p.n)
	for pair := range p.pairs {
		r[pair[0]] |= 1 << pair[1]
	}
	return r
}

// is holds a relation against what it must be, number by number, so that bits that play no part are seen.
func is(t *testing.T, what string, got Rel, want plain) {
	t.Helper()
	if !slices.Equal(got, want.rel()) {
		t.Fatalf("%s is %v, not %v", what, got, want.rel())
	}
}

// all are the relations of n things; of more than 3 there are too many.
func all(n int) []Rel {
	var l []Rel
	for bits := range 1 << (n * n) {
		r := make(Rel, n)
		for i := range n {
			r[i] = uint32(bits>>(i*n)) & (1<<n - 1)
		}
		l = append(l, r)
	}
	return l
}

func small() []Rel {
	var l []Rel
	for n := range 4 {
		l = append(l, all(n)...)
	}
	return l
}

// dirty has bits set that play no part, all of them or every other one.
func dirty(r Rel, with uint32) Rel {
	c := slices.Clone(r)
	for i := range c {
		if len(r) < 32 {
			c[i] |= with << len(r)
		}
	}
	return c
}

// mixed tells numbers that look like chance, the same on every run.
func mixed(seed uint32) func() uint32 {
	x := uint64(seed)*2862933555777941757 + 3037000493
	return func() uint32 {
		x = x*6364136223846793005 + 1442695040888963407
		return uint32(x >> 32)
	}
}

// wide are relations of n things, from such of few pairs, that are mostly acyclic, to such of many; their bits beyond
// n are set at will.
func wide(n int) []Rel {
	var l []Rel
	next := mixed(uint32(n))
	for thin := range 7 {
		for range 2 {
			r := make(Rel, n)
			for i := range r {
				r[i] = next()
				for range thin {
					r[i] &= next()
				}
			}
			l = append(l, r)
		}
	}
	chain, back, full := make(Rel, n), make(Rel, n), make(Rel, n)
	for i := range n {
		full[i] = math.MaxUint32
		if i+1 < n {
			chain[i] = 1 << (i + 1)
			back[i+1] = 1 << i
		}
	}
	l = append(l, make(Rel, n), full, chain, back)
	if n > 0 {
		ring, self := slices.Clone(chain), make(Rel, n)
		ring[n-1] |= 1
		self[n-1] = 1 << (n - 1)
		l = append(l, ring, self)
	}
	return l
}

// sizes are those that a relation may have at its ends, and some between.
var sizes = []int{0, 1, 2, 5, 6, 7, 15, 16, 17, 24, 31, 32}

// tooMany are relations of more things than may be, with bits set.
func tooMany() []Rel {
	var l []Rel
	for _, n := range []int{33, 34, 64, 65, 256, 1000} {
		full := make(Rel, n)
		for i := range full {
			full[i] = math.MaxUint32
		}
		l = append(l, make(Rel, n), full)
	}
	return l
}

// some are relations of all sizes, clean ones and such with bits that play no part, and such of too many things.
func some() []Rel {
	l := append(small(), tooMany()...)
	for _, n := range sizes {
		l = append(l, wide(n)...)
	}
	for _, r := range small() {
		l = append(l, dirty(r, math.MaxUint32), dirty(r, 0x55555555))
	}
	return append(l, nil)
}

// TestNew: P5.1, at both ends, and beyond.
func TestNew(t *testing.T) {
	for n := -70; n < 70; n++ {
		want := 0
		if n >= 0 && n <= 32 {
			want = n
		}
		if got := New(n); !slices.Equal(got, make(Rel, want)) {
			t.Errorf("New(%d) is %v", n, got)
		}
	}
	for _, n := range edges {
		if (n < 0 || n > api.MaxRel) && len(New(n)) != 0 {
			t.Errorf("New(%d) isn't of none", n)
		}
	}
	if len(New(api.MaxRel)) != api.MaxRel || len(New(api.MaxRel+1)) != 0 {
		t.Error("New at MaxRel")
	}
}

// TestPut: P5.1; a pair that there is already, one that is new, and things that there are none of.
func TestPut(t *testing.T) {
	for _, r := range some() {
		want := plainOf(r)
		for _, i := range edges {
			for _, k := range edges {
				more := want
				if i >= 0 && i < want.n && k >= 0 && k < want.n {
					more = where(want.n, func(x, y int) bool { return want.has(x, y) || x == i && y == k })
				}
				got := Put(r, i, k)
				if !slices.Equal(got, more.rel()) {
					t.Fatalf("Put(%v, %d, %d) is %v", r, i, k, got)
				}
			}
		}
	}
}

// TestPutEach: P5.1; of each size each pair alone, and nothing beside it.
func TestPutEach(t *testing.T) {
	for n := range 33 {
		for i := range n {
			for k := range n {
				r := Put(New(n), i, k)
				if l := Pairs(r); len(r) != n || len(l) != 1 || l[0] != [2]int{i, k} {
					t.Fatalf("of %d things Put %d, %d has %v", n, i, k, l)
				}
			}
		}
	}
}

// TestHas: P5.1, of things that there are, and of such that there are none of.
func TestHas(t *testing.T) {
	for _, r := range some() {
		p := plainOf(r)
		for _, i := range edges {
			for _, k := range edges {
				if got := Has(r, i, k); got != p.has(i, k) {
					t.Fatalf("Has(%v, %d, %d) is %v", r, i, k, got)
				}
			}
		}
		for i := range 33 {
			for k := range 33 {
				if got := Has(r, i, k); got != p.has(i, k) {
					t.Fatalf("Has(%v, %d, %d) is %v", r, i, k, got)
				}
			}
		}
	}
}

// TestPairs: P5.1; all of them, rising by the first, then by the second.
func TestPairs(t *testing.T) {
	for _, r := range some() {
		p := plainOf(r)
		var want [][2]int
		for i := range p.n {
			for k := range p.n {
				if p.has(i, k) {
					want = append(want, [2]int{i, k})
				}
			}
		}
		if got := Pairs(r); !slices.Equal(got, want) {
			t.Fatalf("Pairs(%v) is %v", r, got)
		}
	}
	if l := Pairs(Rel{6, 0, 1}); !slices.Equal(l, [][2]int{{0, 1}, {0, 2}, {2, 0}}) {
		t.Error(l)
	}
}

// TestSame: P5.1, of small ones each against each, and of such that are unlike in one pair, or in size alone.
func TestSame(t *testing.T) {
	for i, a := range small() {
		for k, b := range small() {
			for _, other := range []Rel{b, dirty(b, math.MaxUint32)} {
				if Same(a, other) != (i == k) || Same(other, a) != (i == k) {
					t.Fatalf("Same of %v and %v", a, other)
				}
			}
		}
	}
	for _, n := range sizes {
		for _, a := range wide(n) {
			if !Same(a, a) || !Same(a, dirty(plainOf(a).rel(), 0x33333333)) {
				t.Fatalf("%v isn't the same as itself", a)
			}
			for i := range n {
				other := slices.Clone(a)
				other[i] ^= 1 << (n - 1 - i)
				if Same(a, other) || Same(other, a) {
					t.Fatalf("%v and %v are the same", a, other)
				}
			}
			if longer := append(slices.Clone(a), 0); n < 32 && (Same(longer, a) || Same(a, longer)) {
				t.Fatalf("%v is the same with one thing more", a)
			}
		}
	}
}

// TestTooMany: of more than 32 things there are no pairs; such a one is as that of none, in each call.
func TestTooMany(t *testing.T) {
	three := Rel{7, 7, 7}
	for _, r := range append(tooMany(), nil, Rel{}) {
		for i, got := range []Rel{
			Put(r, 0, 0), Inv(r), Plus(r), Only(r, math.MaxUint32, math.MaxUint32),
			Or(r, r), And(r, r), Seq(r, r), Or(r, nil), And(nil, r), Seq(r, Rel{}),
			Or(r, three), Or(three, r), And(r, three), And(three, r), Seq(r, three), Seq(three, r),
		} {
			if len(got) != 0 {
				t.Errorf("%d: of %d things: %v", i, len(r), got)
			}
		}
		if Has(r, 0, 0) || len(Pairs(r)) != 0 || !Acyclic(r) {
			t.Errorf("there are pairs of %d things", len(r))
		}
		if Same(r, three) || Same(three, r) || Same(r, Rel{0}) || Same(Rel{0}, r) {
			t.Errorf("%d things are the same as some", len(r))
		}
		for _, other := range tooMany() {
			if !Same(r, other) || !Same(other, r) {
				t.Errorf("%d things and %d things are unlike", len(r), len(other))
			}
		}
	}
}

func holdTwo(t *testing.T, a, b Rel, p, q plain) {
	t.Helper()
	is(t, "Or", Or(a, b), p.or(q))
	is(t, "And", And(a, b), p.and(q))
	is(t, "Seq", Seq(a, b), p.seq(q))
}

// TestTwoSmall: P5.2; Or, And and Seq of all of up to two things, and of all of three with some of three.
func TestTwoSmall(t *testing.T) {
	few := append(append(all(0), all(1)...), all(2)...)
	three := all(3)
	for _, a := range few {
		for _, b := range append(few, three...) {
			holdTwo(t, a, b, plainOf(a), plainOf(b))
			holdTwo(t, b, a, plainOf(b), plainOf(a))
			holdTwo(t, dirty(a, math.MaxUint32), dirty(b, math.MaxUint32), plainOf(a), plainOf(b))
		}
	}
	for i, a := range three {
		for k := i % 7; k < len(three); k += 7 {
			b := three[k]
			holdTwo(t, a, b, plainOf(a), plainOf(b))
			holdTwo(t, dirty(a, 0x55555555), dirty(b, math.MaxUint32), plainOf(a), plainOf(b))
		}
	}
}

// TestTwoWide: P5.2; Or, And and Seq of greater ones, and of unlike many things.
func TestTwoWide(t *testing.T) {
	for _, n := range sizes {
		for _, a := range wide(n) {
			for _, b := range wide(n) {
				holdTwo(t, a, b, plainOf(a), plainOf(b))
			}
		}
	}
	for n := range 35 {
		for m := range 35 {
			a, b := make(Rel, n), make(Rel, m)
			for i := range a {
				a[i] = math.MaxUint32
			}
			for i := range b {
				b[i] = math.MaxUint32
			}
			if n != m {
				holdTwo(t, a, b, plainOf(a), plainOf(b))
			}
		}
	}
}

// TestOne: P5.2; Inv, Plus and Acyclic.
func TestOne(t *testing.T) {
	for _, a := range some() {
		p := plainOf(a)
		is(t, "Inv", Inv(a), p.inv())
		is(t, "Plus", Plus(a), p.plus())
		if got := Acyclic(a); got != p.acyclic() {
			t.Fatalf("Acyclic(%v) is %v", a, got)
		}
	}
}

// TestPlusFour: P5.2; ways over several things in any order, of all relations of four things.
func TestPlusFour(t *testing.T) {
	for bits := range uint32(1) << 16 {
		a := Rel{bits & 15, bits >> 4 & 15, bits >> 8 & 15, bits >> 12}
		p := plainOf(a)
		want := p.plus()
		if got := Plus(a); !slices.Equal(got, want.rel()) {
			t.Fatalf("Plus(%v) is %v", a, got)
		}
		if got := Acyclic(a); got != p.acyclic() {
			t.Fatalf("Acyclic(%v) is %v", a, got)
		}
	}
}

// TestRings: P5.2; a ring of any length that ends at any thing is none that is acyclic; cut open it is.
func TestRings(t *testing.T) {
	for n := 1; n <= 32; n++ {
		for step := 1; step <= n; step++ {
			ring := New(n)
			at, long := 0, 0
			for {
				ring = Put(ring, at, (at+step)%n)
				at, long = (at+step)%n, long+1
				if at == 0 {
					break
				}
			}
			if Acyclic(ring) {
				t.Fatalf("a ring of %d, of %d things", long, n)
			}
			for i := range n {
				cut := slices.Clone(ring)
				cut[i] = 0
				if Acyclic(cut) != (ring[i] != 0) {
					t.Fatalf("a ring of %d, of %d things, cut at %d", long, n, i)
				}
			}
		}
	}
}

// masks are sets of things: none, all, and one or several, at both ends.
var masks = []uint32{0, 1, 2, 3, 5, 6, 7, 8, 0x80, 0x8000, 0x00ff00ff, 0x55555555, 0xaaaaaaaa, 1 << 30, 1 << 31, 0x80000001, 0x7fffffff, 0xfffffffe, math.MaxUint32}

// TestOnly: P5.2, with bits that are no things, too.
func TestOnly(t *testing.T) {
	for _, a := range some() {
		p := plainOf(a)
		for _, from := range masks {
			for _, to := range masks {
				if got := Only(a, from, to); !slices.Equal(got, p.only(from, to).rel()) {
					t.Fatalf("Only(%v, %x, %x) is %v", a, from, to, got)
				}
			}
		}
	}
}

// TestCross: P5.2, with numbers of things that may not be.
func TestCross(t *testing.T) {
	sizes := slices.Clone(edges)
	for n := range 35 {
		sizes = append(sizes, n)
	}
	for _, n := range sizes {
		many := n
		if n < 0 || n > 32 {
			many = 0
		}
		for _, from := range masks {
			for _, to := range masks {
				want := where(many, func(i, k int) bool { return from>>i&1 == 1 && to>>k&1 == 1 })
				if got := Cross(n, from, to); !slices.Equal(got, want.rel()) {
					t.Fatalf("Cross(%d, %x, %x) is %v", n, from, to, got)
				}
			}
		}
	}
}

// TestExample: the chapter's example.
func TestExample(t *testing.T) {
	a := Put(Put(New(3), 0, 1), 1, 2)
	if p := Plus(a); !Has(p, 0, 2) || len(Pairs(p)) != 3 || !Acyclic(a) || Acyclic(Put(a, 2, 0)) {
		t.Error("0 to 1, 1 to 2")
	}
}

// alike holds relations that a law says are the same.
func alike(t *testing.T, law string, a, b Rel) {
	t.Helper()
	if !Same(a, b) || !slices.Equal(a, b) {
		t.Fatalf("%s: %v, and %v", law, a, b)
	}
}

func lawsOfOne(t *testing.T, a Rel) {
	t.Helper()
	a = Or(a, a)
	n := len(a)
	zero, full, same := New(n), Cross(n, math.MaxUint32, math.MaxUint32), New(n)
	for i := range n {
		same = Put(same, i, i)
	}
	alike(t, "and itself", And(a, a), a)
	alike(t, "or none", Or(a, zero), a)
	alike(t, "and none", And(a, zero), zero)
	alike(t, "or all", Or(a, full), full)
	alike(t, "and all", And(a, full), a)
	alike(t, "behind the same", Seq(same, a), a)
	alike(t, "ahead of the same", Seq(a, same), a)
	alike(t, "behind none", Seq(zero, a), zero)
	alike(t, "ahead of none", Seq(a, zero), zero)
	alike(t, "turned twice", Inv(Inv(a)), a)
	alike(t, "closed twice", Plus(Plus(a)), Plus(a))
	alike(t, "closed and turned", Inv(Plus(a)), Plus(Inv(a)))
	alike(t, "closed has it", Or(a, Plus(a)), Plus(a))
	alike(t, "closed leads on", Or(Seq(Plus(a), Plus(a)), Plus(a)), Plus(a))
	alike(t, "closed is it, or it and on", Or(a, Seq(a, Plus(a))), Plus(a))
	alike(t, "closed is it, or on and it", Or(a, Seq(Plus(a), a)), Plus(a))
	alike(t, "only all", Only(a, math.MaxUint32, math.MaxUint32), a)
	if Acyclic(a) != Acyclic(Inv(a)) || Acyclic(a) != Acyclic(Plus(a)) || Acyclic(a) != Same(And(Plus(a), same), zero) {
		t.Fatalf("acyclic: %v", a)
	}
	put := New(n)
	for _, p := range Pairs(a) {
		put = Put(put, p[0], p[1])
	}
	alike(t, "pair by pair", put, a)
}

func lawsOfTwo(t *testing.T, a, b Rel) {
	t.Helper()
	alike(t, "or, both ways round", Or(a, b), Or(b, a))
	alike(t, "and, both ways round", And(a, b), And(b, a))
	alike(t, "or, turned", Inv(Or(a, b)), Or(Inv(a), Inv(b)))
	alike(t, "and, turned", Inv(And(a, b)), And(Inv(a), Inv(b)))
	alike(t, "seq, turned", Inv(Seq(a, b)), Seq(Inv(b), Inv(a)))
	alike(t, "or, and", And(a, Or(a, b)), Or(a, New(len(Or(a, b)))))
	alike(t, "and, or", Or(a, And(a, b)), Or(a, New(len(Or(a, b)))))
	alike(t, "closed, joined", Plus(Or(Plus(a), b)), Plus(Or(a, b)))
}

func lawsOfThree(t *testing.T, a, b, c Rel) {
	t.Helper()
	alike(t, "or of three", Or(Or(a, b), c), Or(a, Or(b, c)))
	alike(t, "and of three", And(And(a, b), c), And(a, And(b, c)))
	alike(t, "seq of three", Seq(Seq(a, b), c), Seq(a, Seq(b, c)))
	alike(t, "and of or", And(a, Or(b, c)), Or(And(a, b), And(a, c)))
	alike(t, "or of and", Or(a, And(b, c)), And(Or(a, b), Or(a, c)))
	alike(t, "seq of or", Seq(a, Or(b, c)), Or(Seq(a, b), Seq(a, c)))
	alike(t, "or, then seq", Seq(Or(a, b), c), Or(Seq(a, c), Seq(b, c)))
}

// TestLaws: P5.3, of small and of wide ones, of as many things each.
func TestLaws(t *testing.T) {
	for _, a := range some() {
		lawsOfOne(t, a)
	}
	for n := range 3 {
		for _, a := range all(n) {
			for _, b := range all(n) {
				lawsOfTwo(t, a, b)
				for _, c := range all(n) {
					lawsOfThree(t, a, b, c)
				}
			}
		}
	}
	three := all(3)
	for i, a := range three {
		for k := i % 5; k < len(three); k += 5 {
			lawsOfTwo(t, a, three[k])
			lawsOfThree(t, a, three[k], three[(i*31+k*17)%len(three)])
		}
	}
	for _, n := range sizes {
		l := wide(n)
		for i, a := range l {
			for k, b := range l {
				lawsOfTwo(t, a, b)
				lawsOfThree(t, a, b, l[(i*5+k*3)%len(l)])
			}
		}
	}
}

// TestLawsUnlike: P5.3; what is of unlike many is as good as none, both ways round, turned, and closed.
func TestLawsUnlike(t *testing.T) {
	for _, n := range sizes {
		for _, m := range sizes {
			if n == m {
				continue
			}
			for _, a := range wide(n) {
				b := wide(m)[0]
				alike(t, "or", Or(a, b), Or(b, a))
				alike(t, "and", And(a, b), And(b, a))
				alike(t, "seq, turned", Inv(Seq(a, b)), Seq(Inv(b), Inv(a)))
				alike(t, "or, turned", Inv(Or(a, b)), Or(Inv(a), Inv(b)))
				alike(t, "closed", Plus(Or(a, b)), Plus(Plus(Or(a, b))))
			}
		}
	}
}

// TestGivenStays: R3; no call changes what it is given, and no answer shares anything with it.
func TestGivenStays(t *testing.T) {
	for _, n := range []int{1, 2, 3, 24, 32, 33} {
		room := make(Rel, n, n+8)
		for i := range room {
			room[i] = 0x81000001 << (i % 24)
		}
		before := slices.Clone(room[:n+8])
		other := slices.Clone(room)
		calls := []func() Rel{
			func() Rel { return Put(room, 0, n-1) }, func() Rel { return Put(room, 0, 0) }, func() Rel { return Put(room, n, -1) },
			func() Rel { return Or(room, room) }, func() Rel { return Or(room, other) }, func() Rel { return Or(other, room) },
			func() Rel { return And(room, room) }, func() Rel { return And(room, other) }, func() Rel { return And(other, room) },
			func() Rel { return Seq(room, room) }, func() Rel { return Seq(room, other) }, func() Rel { return Seq(other, room) },
			func() Rel { return Or(room, nil) }, func() Rel { return And(nil, room) }, func() Rel { return Seq(room, nil) },
			func() Rel { return Inv(room) }, func() Rel { return Plus(room) }, func() Rel { return Only(room, math.MaxUint32, math.MaxUint32) },
		}
		for i, call := range calls {
			first := call()
			want := slices.Clone(first)
			for k := range first {
				first[k] = ^first[k]
			}
			_ = append(first, 7, 7, 7)
			if !slices.Equal(room[:n+8], before) || !slices.Equal(other, before[:n]) {
				t.Fatalf("call %d, of %d things: what was given is now %v", i, n, room)
			}
			if again := call(); !slices.Equal(again, want) {
				t.Fatalf("call %d, of %d things: %v, then %v", i, n, want, again)
			}
		}
		Has(room, 0, 0)
		Pairs(room)
		Acyclic(room)
		Same(room, other)
		if !slices.Equal(room[:n+8], before) || !slices.Equal(other, before[:n]) {
			t.Fatalf("of %d things: what was given is now %v", n, room)
		}
	}
}

// TestNewEach: R4; what New and Cross tell is new each time.
func TestNewEach(t *testing.T) {
	for n := 1; n <= 32; n++ {
		a, c := New(n), Cross(n, math.MaxUint32, 0)
		for i := range n {
			a[i], c[i] = 5, 5
		}
		if !slices.Equal(New(n), make(Rel, n)) || !slices.Equal(Cross(n, math.MaxUint32, 0), make(Rel, n)) {
			t.Fatalf("of %d things", n)
		}
	}
}
