package text

import (
	"math"
	"math/big"
	"regexp"
	"slices"
	"strings"
	"testing"

	"cupola/api"
	"cupola/test"
)

// row is the chapters' word on an operation's line: its name, and its fields in their order there.
type row struct {
	op     int
	name   string
	fields string
}

var chapter = []row{
	{api.OpMov, "mov", "D Imm"},
	{api.OpAdd, "add", "D A B"},
	{api.OpEor, "eor", "D A B"},
	{api.OpAnd, "and", "D A B"},
	{api.OpLdr, "ldr", "D A Loc"},
	{api.OpStr, "str", "A B Loc"},
	{api.OpLdar, "ldar", "D A Loc"},
	{api.OpStlr, "stlr", "A B Loc"},
	{api.OpLdxr, "ldxr", "D A Loc"},
	{api.OpStxr, "stxr", "D A B Loc"},
	{api.OpDmb, "dmb", "Imm"},
	{api.OpIsb, "isb", ""},
	{api.OpCbz, "cbz", "A Imm"},
	{api.OpCbnz, "cbnz", "A Imm"},
}

// namelessOps are numbers that are no operation.
var namelessOps = []int{0, 15, 16, 99, -1, -14, 256 + 1, 1<<32 + 1, math.MaxInt, math.MinInt}

// sizes are numbers of all lengths, with what stands for them in figures.
var sizes = []struct {
	n       int64
	figures string
}{
	{0, "0"}, {1, "1"}, {-1, "-1"}, {3, "3"}, {9, "9"}, {10, "10"}, {-10, "-10"}, {100, "100"},
	{1000, "1000"}, {-1001, "-1001"}, {math.MaxInt32, "2147483647"}, {math.MinInt32 - 1, "-2147483649"},
	{math.MaxInt64, "9223372036854775807"}, {math.MinInt64, "-9223372036854775808"},
}

// noFigures stand for no number as in figures it is, or for none that is an int64.
var noFigures = []string{
	"", "-", "+", "+1", "01", "00", "-0", "-01", "+0", "0x1", "1_0", "1.0", "1e1", "1,", "a", "1a", "a1", "--1", "- 1",
	"\t1", "1\t", "1\r", "1\x00", "\u0661", "\uff11", "\u22121", "?",
	"9223372036854775808", "-9223372036854775809", "18446744073709551616", "99999999999999999999999",
}

func set(x *api.Ins, field string, n int64) {
	switch field {
	case "D":
		x.D = int(n)
	case "A":
		x.A = int(n)
	case "B":
		x.B = int(n)
	case "Loc":
		x.Loc = int(n)
	case "Imm":
		x.Imm = n
	}
}

// same holds nil and empty for the same.
func same(a, b api.Test) bool {
	return slices.Equal(a.Init, b.Init) && slices.EqualFunc(a.Threads, b.Threads, slices.Equal[[]api.Ins])
}

// TestLineOfEach: P3.1; all fields hold unlike numbers, so that an order or a field that is wrong is seen.
func TestLineOfEach(t *testing.T) {
	want := []string{
		"mov 11 15", "add 11 12 13", "eor 11 12 13", "and 11 12 13", "ldr 11 12 14", "str 12 13 14", "ldar 11 12 14",
		"stlr 12 13 14", "ldxr 11 12 14", "stxr 11 12 13 14", "dmb 15", "isb", "cbz 12 15", "cbnz 12 15",
	}
	for i, r := range chapter {
		x := api.Ins{Op: r.op, D: 11, A: 12, B: 13, Loc: 14, Imm: 15}
		if got := Line(x); got != want[i] {
			t.Errorf("Line(%v) is %q, not %q", x, got, want[i])
		}
	}
}

// TestExample: the chapter's example.
func TestExample(t *testing.T) {
	x := api.Ins{Op: api.OpLdr, D: 1, A: -1}
	if got := Line(x); got != "ldr 1 -1 0" {
		t.Errorf("Line(%v) is %q", x, got)
	}
	if got, ok := Read("ldr 1 -1 0"); !ok || got != x {
		t.Errorf("Read of ldr 1 -1 0 is %v, %v", got, ok)
	}
}

// TestLineNameless: P3.1; what has no name has no fields either.
func TestLineNameless(t *testing.T) {
	for _, op := range namelessOps {
		for _, x := range []api.Ins{{Op: op}, {Op: op, D: 1, A: 2, B: 3, Loc: 4, Imm: 5}} {
			if got := Line(x); got != "?" {
				t.Errorf("Line(%v) is %q", x, got)
			}
		}
	}
}

// TestFigures: P3.1, of numbers of any size in each field: written, read, and read as nothing, if wrongly written.
func TestFigures(t *testing.T) {
	for _, r := range chapter {
		names := strings.Fields(r.fields)
		for k, field := range names {
			words := append([]string{r.name}, slices.Repeat([]string{"0"}, len(names))...)
			for _, c := range sizes {
				x := api.Ins{Op: r.op}
				set(&x, field, c.n)
				words[k+1] = c.figures
				line := strings.Join(words, " ")
				if got := Line(x); got != line {
					t.Errorf("Line(%v) is %q, not %q", x, got, line)
				}
				if got, ok := Read(line); !ok || got != x {
					t.Errorf("Read(%q) is %v, %v, not %v", line, got, ok, x)
				}
			}
			for _, s := range noFigures {
				words[k+1] = s
				checkNoLine(t, strings.Join(words, " "))
			}
		}
	}
}

func checkNoLine(t *testing.T, s string) {
	t.Helper()
	if x, ok := Read(s); ok || x != (api.Ins{}) {
		t.Errorf("Read(%q) is %v, %v", s, x, ok)
	}
}

// TestReadOtherFields: P3.1; what a line doesn't tell is read as 0.
func TestReadOtherFields(t *testing.T) {
	for _, r := range chapter {
		x, want := api.Ins{Op: r.op, D: 11, A: 12, B: 13, Loc: 14, Imm: 15}, api.Ins{Op: r.op}
		for i, field := range []string{"D", "A", "B", "Loc", "Imm"} {
			if slices.Contains(strings.Fields(r.fields), field) {
				set(&want, field, int64(11+i))
			}
		}
		if got, ok := Read(Line(x)); !ok || got != want {
			t.Errorf("%s is read as %v, %v, not %v", r.name, got, ok, want)
		}
	}
}

// TestReadCount: P3.1, of lines with a number too few, one too many, and blanks where none may be.
func TestReadCount(t *testing.T) {
	for _, r := range chapter {
		n := len(strings.Fields(r.fields))
		for k := range 8 {
			s := r.name + strings.Repeat(" 0", k)
			if k != n {
				checkNoLine(t, s)
				continue
			}
			if x, ok := Read(s); !ok || x != (api.Ins{Op: r.op}) {
				t.Errorf("Read(%q) is %v, %v", s, x, ok)
			}
			for i := range len(s) + 1 {
				for _, between := range []string{" ", "\n", "\r", "\t", "\x00", ",", "q"} {
					checkNoLine(t, s[:i]+between+s[i:])
				}
				if len(r.name) <= i && i < len(s) { // a letter fewer may make another's name: ldxr, ldr
					checkNoLine(t, s[:i]+s[i+1:])
				}
			}
		}
	}
}

// TestReadWrongNames: P3.1; among them what is a line of a text, but no instruction's with a name.
func TestReadWrongNames(t *testing.T) {
	for _, s := range []string{
		"", " ", "\n", "?", "? 0", "?\n", "thread", "init", "init 0", "thread 0", "nop", "0", "1", "mo", "movs",
		"MOV 0 0", "Mov 0 0", "ISB", "isb isb", "ldr", "LDR 1 -1 0", "mov,0,0", "\xffisb", "isb\xff",
	} {
		checkNoLine(t, s)
	}
}

// TestReadNames: P3.1; each name is read as its own operation's, and only as it is spelt.
func TestReadNames(t *testing.T) {
	for _, r := range chapter {
		x, ok := Read(Line(api.Ins{Op: r.op}))
		if !ok || x.Op != r.op {
			t.Errorf("%s is read as operation %d, %v", r.name, x.Op, ok)
		}
		checkNoLine(t, strings.ToUpper(Line(x)))
	}
}

// TestPrint: P3.1, of tests that may be, and of others.
func TestPrint(t *testing.T) {
	isb := api.Ins{Op: api.OpIsb}
	for _, c := range []struct {
		t    api.Test
		want string
	}{
		{api.Test{}, "init\n"},
		{api.Test{Init: []int64{}, Threads: [][]api.Ins{}}, "init\n"},
		{api.Test{Init: []int64{7}}, "init 7\n"},
		{api.Test{Threads: [][]api.Ins{nil}}, "init\nthread\n"},
		{api.Test{Threads: [][]api.Ins{nil, {}, {isb}}}, "init\nthread\nthread\nthread\nisb\n"},
		{api.Test{Init: []int64{0, -5, 1000}, Threads: [][]api.Ins{{{Op: api.OpMov, D: 1, Imm: -1000}, isb}, {isb}}},
			"init 0 -5 1000\nthread\nmov 1 -1000\nisb\nthread\nisb\n"},
		{api.Test{Init: []int64{math.MinInt64, math.MaxInt64, 0, 0}, Threads: [][]api.Ins{{{Op: 99, D: 1}, {Op: api.OpCbz, A: -7, B: 1, Imm: 99}}}},
			"init -9223372036854775808 9223372036854775807 0 0\nthread\n?\ncbz -7 99\n"},
	} {
		if got := Print(c.t); got != c.want {
			t.Errorf("Print(%v) is %q, not %q", c.t, got, c.want)
		}
	}
}

// TestParse: P3.2, of a text with an instruction of each kind of fields.
func TestParse(t *testing.T) {
	s := "init 0 -1000 1000\nthread\nmov 0 -1000\neor 1 0 0\nstlr 1 0 2\nldxr 1 -1 0\nstxr 3 -1 2 0\ndmb 2\nisb\ncbnz 3 0\nthread\nand 3 2 1\nthread\nldar 0 3 1\n"
	want := api.Test{Init: []int64{0, -1000, 1000}, Threads: [][]api.Ins{
		{
			{Op: api.OpMov, Imm: -1000}, {Op: api.OpEor, D: 1}, {Op: api.OpStlr, A: 1, Loc: 2}, {Op: api.OpLdxr, D: 1, A: -1},
			{Op: api.OpStxr, D: 3, A: -1, B: 2}, {Op: api.OpDmb, Imm: 2}, {Op: api.OpIsb}, {Op: api.OpCbnz, A: 3},
		},
		{{Op: api.OpAnd, D: 3, A: 2, B: 1}},
		{{Op: api.OpLdar, A: 3, Loc: 1}},
	}}
	got, at, e := Parse(s)
	if e != api.OK || at != 0 || !same(got, want) {
		t.Errorf("Parse is %v, %d, %d", got, at, e)
	}
	if p := Print(got); p != s {
		t.Errorf("Print of what was parsed is %q", p)
	}
}

type faultCase struct {
	s  string
	at int
	e  api.Errno
}

func runFaults(t *testing.T, cases []faultCase) {
	t.Helper()
	for _, c := range cases {
		got, at, e := Parse(c.s)
		if at != c.at || e != c.e || len(got.Init) != 0 || len(got.Threads) != 0 {
			t.Errorf("Parse(%q) is %v, %d, %d, not %d, %d", c.s, got, at, e, c.at, c.e)
		}
	}
}

// TestParseLines: P3.2, of the first line that is none of a text at its place.
func TestParseLines(t *testing.T) {
	runFaults(t, []faultCase{
		{"\n", 0, api.ErrForm},
		{"x", 0, api.ErrForm},
		{"thread\nisb\n", 0, api.ErrForm},
		{"isb\nthread\nisb\n", 0, api.ErrForm},
		{" init 0\nthread\nisb\n", 0, api.ErrForm},
		{"init 0 \nthread\nisb\n", 0, api.ErrForm},
		{"init  0\nthread\nisb\n", 0, api.ErrForm},
		{"init \nthread\nisb\n", 0, api.ErrForm},
		{"init0\nthread\nisb\n", 0, api.ErrForm},
		{"Init 0\nthread\nisb\n", 0, api.ErrForm},
		{"mov 0 0\nthread\nisb\n", 0, api.ErrForm},
		{"init 0\r\nthread\r\nisb\r\n", 0, api.ErrForm},
		{"\ninit 0\nthread\nisb\n", 0, api.ErrForm},
		{"init 0\n\nthread\nisb\n", 1, api.ErrForm},
		{"init 0\ninit 0\nthread\nisb\n", 1, api.ErrForm},
		{"init 0\n?\nthread\n", 1, api.ErrForm},
		{"init 0\nthread \nisb\n", 1, api.ErrForm},
		{"init 0\nthread 0\nisb\n", 1, api.ErrForm},
		{"init 0\nTHREAD\nisb\n", 1, api.ErrForm},
		{"init 0\nthread\ninit 0\n", 2, api.ErrForm},
		{"init 0\nthread\n\nisb\n", 2, api.ErrForm},
		{"init 0\nthread\n isb\n", 2, api.ErrForm},
		{"init 0\nthread\nisb\nthreads\n", 3, api.ErrForm},
		{"init 0\nthread\nisb\nthread\nnop\nmov\n", 4, api.ErrForm},
		{"init 0\nthread\n?\nisb\n", 2, api.ErrForm},
		{"init 0\nthread\nisb\n\x00", 3, api.ErrForm},
	})
	for _, s := range noFigures {
		runFaults(t, []faultCase{
			{"init " + s + "\nthread\nisb\n", 0, api.ErrForm},
			{"init 0 " + s + " 0\nthread\nisb\n", 0, api.ErrForm},
			{"init 0\nthread\nisb\nmov 0 " + s + "\nisb\n", 3, api.ErrForm},
		})
	}
}

// TestParseUnended: P3.2; what stands behind the last byte 10 is a line, but not ended.
func TestParseUnended(t *testing.T) {
	runFaults(t, []faultCase{
		{"init 0", 0, api.ErrForm},
		{"init 0\nthread", 1, api.ErrForm},
		{"init 0\nthread\nisb", 2, api.ErrForm},
		{"init 0\nthread\nisb\nthread", 3, api.ErrForm},
		{"init 0\nthread\nisb\n ", 3, api.ErrForm},
		{"init 0\nbad\nisb", 1, api.ErrForm},
		{"init\nthread", 1, api.ErrForm},
	})
}

// TestParseFewLines: P3.2; as many as there are lines, if they are fewer than two.
func TestParseFewLines(t *testing.T) {
	runFaults(t, []faultCase{
		{"", 0, api.ErrForm},
		{"init\n", 1, api.ErrForm},
		{"init 0\n", 1, api.ErrForm},
		{"init 1 2 3 4 5 1001\n", 1, api.ErrForm},
	})
}

// TestParseMayNotBe: P3.2; test.Check's error, with the number of all lines, and only where all lines are of a text.
func TestParseMayNotBe(t *testing.T) {
	load := "ldr 0 -1 0\n"
	store := "str -1 0 0\n"
	runFaults(t, []faultCase{
		{"init\nthread\n", 2, api.ErrArg},
		{"init 0\nthread\n", 2, api.ErrArg},
		{"init\nthread\nisb\n", 3, api.ErrArg},
		{"init 0 0 0 0\nthread\nisb\n", 3, api.ErrArg},
		{"init 1001\nthread\nisb\n", 3, api.ErrArg},
		{"init 0 -1001\nthread\nisb\n", 3, api.ErrArg},
		{"init 9223372036854775807\nthread\nisb\n", 3, api.ErrArg},
		{"init 0\n" + strings.Repeat("thread\nisb\n", 4), 9, api.ErrArg},
		{"init 0\nthread\n" + strings.Repeat("isb\n", 9), 11, api.ErrArg},
		{"init 0\nthread\nthread\nisb\n", 4, api.ErrArg},
		{"init 0\nthread\nisb\nthread\n", 4, api.ErrArg},
		{"init 0\nthread\nmov 4 0\n", 3, api.ErrForm},
		{"init 0\nthread\nmov 0 1001\nisb\nisb\n", 5, api.ErrForm},
		{"init 0\nthread\nldr 0 -1 1\n", 3, api.ErrForm},
		{"init 0\nthread\nstr -1 -1 0\n", 3, api.ErrForm},
		{"init 0\nthread\ndmb 3\n", 3, api.ErrForm},
		{"init 0\nthread\ncbz 0 2\nisb\nthread\nisb\n", 6, api.ErrForm},
		{"init 0\nthread\nmov 4 0\nthread\n", 4, api.ErrForm},
		{"init 0\nthread\nthread\nmov 4 0\n", 4, api.ErrArg},
		{"init 0\nthread\n" + strings.Repeat(load, 5), 7, api.ErrFull},
		{"init 0\nthread\n" + strings.Repeat(store, 7), 9, api.ErrFull},
		{"init 0\nthread\n" + strings.Repeat(store, 4) + "thread\n" + strings.Repeat(load, 3), 10, api.ErrFull},
		{"init\nthread\nmov 4 0\nbad\n", 3, api.ErrForm},
		{"init 0 0 0 0\nthread\nisb", 2, api.ErrForm},
	})
}

// TestParseIsNew: what is parsed shares no memory with what is parsed again, nor one thread with another.
func TestParseIsNew(t *testing.T) {
	s := "init 1 2\nthread\nisb\nmov 1 2\nthread\nmov 3 4\n"
	first, _, _ := Parse(s)
	first.Init[0] = 99
	first.Threads[0] = append(first.Threads[0], api.Ins{Op: 99})
	first.Threads[0][0].Op = 99
	second, at, e := Parse(s)
	if e != api.OK || at != 0 || Print(second) != s {
		t.Errorf("Parse is %v, %d, %d behind a change of what it told", second, at, e)
	}
	if got := first.Threads[1][0]; got != (api.Ins{Op: api.OpMov, D: 3, Imm: 4}) {
		t.Errorf("the second thread was changed with the first: %v", got)
	}
}

// TestPrintLeaves: what is handed in stays as it is (R3).
func TestPrintLeaves(t *testing.T) {
	x := api.Test{Init: []int64{1, 2}, Threads: [][]api.Ins{{{Op: api.OpMov, D: 3, A: 7, Imm: 4}}, nil}}
	y := api.Test{Init: []int64{1, 2}, Threads: [][]api.Ins{{{Op: api.OpMov, D: 3, A: 7, Imm: 4}}, nil}}
	Print(x)
	Line(x.Threads[0][0])
	if !same(x, y) {
		t.Errorf("Print made %v of %v", x, y)
	}
}

// few are instructions, some of which may not be: with a field that isn't theirs, or one that is too great.
var few = []api.Ins{
	{Op: api.OpMov, D: 3, Imm: -1000}, {Op: api.OpMov, D: 4}, {Op: api.OpAdd, D: 1, A: 2, B: 3},
	{Op: api.OpLdr, D: 1, A: -1}, {Op: api.OpLdar, D: 1, A: 2, Loc: 1}, {Op: api.OpStr, A: 3, B: 1}, {Op: api.OpStxr, D: 3, A: -1, B: 2},
	{Op: api.OpDmb, Imm: 2}, {Op: api.OpIsb}, {Op: api.OpCbz, A: 1, Imm: 1}, {Op: api.OpCbnz, A: 3}, {Op: api.OpIsb, Imm: 1}, {Op: 15},
}

// TestThereAndBack: P3.3, of all tests of one and two threads of up to two of the instructions above, and of some of three.
func TestThereAndBack(t *testing.T) {
	threads := [][]api.Ins{nil}
	for _, x := range few {
		threads = append(threads, []api.Ins{x})
		for _, y := range few {
			threads = append(threads, []api.Ins{x, y})
		}
	}
	may := 0
	check := func(x api.Test) {
		s := Print(x)
		got, at, e := Parse(s)
		if _, _, ce := test.Check(x); ce == api.OK {
			may++
			if e != api.OK || at != 0 || !same(got, x) {
				t.Errorf("%v may be, but is parsed as %v, %d, %d", x, got, at, e)
			}
		} else if e == api.OK && Print(got) != s {
			t.Errorf("%q is parsed as %v", s, got)
		}
	}
	for _, init := range [][]int64{nil, {0}, {-1000, 1000, 1}, {1001}} {
		for _, a := range threads {
			check(api.Test{Init: init, Threads: [][]api.Ins{a}})
			for _, b := range threads {
				check(api.Test{Init: init, Threads: [][]api.Ins{a, b}})
			}
		}
		for _, x := range few {
			check(api.Test{Init: init, Threads: [][]api.Ins{{few[0]}, {x}, {x, x}}})
		}
	}
	if may < 5000 {
		t.Errorf("only %d tests may be", may)
	}
}

// rules tell lines by patterns, by the chapter's words, apart from how the package tells them.
type rules struct {
	init   *regexp.Regexp
	plain  *regexp.Regexp
	number *regexp.Regexp
}

func newRules() rules {
	const number = `(?:0|-?[1-9][0-9]*)`
	var lines []string
	for _, r := range chapter {
		lines = append(lines, r.name+strings.Repeat(" "+number, len(strings.Fields(r.fields))))
	}
	return rules{
		init:   regexp.MustCompile(`^init(?: ` + number + `)*$`),
		plain:  regexp.MustCompile(`^(?:` + strings.Join(lines, "|") + `)$`),
		number: regexp.MustCompile(number),
	}
}

func (r rules) small(line string) bool {
	for _, w := range r.number.FindAllString(line, -1) {
		if n, ok := new(big.Int).SetString(w, 10); !ok || !n.IsInt64() {
			return false
		}
	}
	return true
}

func (r rules) fits(at int, line string) bool {
	if strings.Contains(line, "\n") {
		return false
	}
	if at == 0 {
		return r.init.MatchString(line) && r.small(line)
	}
	return line == "thread" || at > 1 && r.plain.MatchString(line) && r.small(line)
}

// fault is the place of the first line that isn't of a text, or as many as there are; true, if all are, and enough.
func (r rules) fault(s string) (int, bool) {
	lines := strings.Split(s, "\n")
	last := len(lines) - 1
	for i, line := range lines[:last] {
		if !r.fits(i, line) {
			return i, false
		}
	}
	return last, lines[last] == "" && last >= 2
}

// checkAgainst holds what a text is parsed as against the rules, and against its own text.
func checkAgainst(t *testing.T, r rules, s string) {
	t.Helper()
	got, at, e := Parse(s)
	place, good := r.fault(s)
	switch {
	case !good:
		if at != place || e != api.ErrForm || len(got.Init) != 0 || len(got.Threads) != 0 {
			t.Errorf("Parse(%q) is %v, %d, %d, not %d, ErrForm", s, got, at, e, place)
		}
	case e == api.OK:
		if at != 0 || Print(got) != s {
			t.Errorf("Parse(%q) is %v, %d, whose text is %q", s, got, at, Print(got))
		}
		if _, _, ce := test.Check(got); ce != api.OK {
			t.Errorf("Parse(%q) may not be: %d", s, ce)
		}
	default:
		if at != place || len(got.Init) != 0 || len(got.Threads) != 0 {
			t.Errorf("Parse(%q) is %v, %d, %d, not %d", s, got, at, e, place)
		}
	}
}

// TestChangedTexts: P3.2 and P3.3, of a text with one byte left out, changed, put in or told twice, and cut anywhere.
func TestChangedTexts(t *testing.T) {
	r := newRules()
	s := "init 0 -5\nthread\nmov 0 1\nstr -1 0 0\nldr 1 2 1\nthread\nstxr 1 -1 2 0\ndmb 2\nisb\ncbz 3 1\nadd 0 1 2\n"
	checkAgainst(t, r, s)
	for i := range len(s) + 1 {
		checkAgainst(t, r, s[:i])
		checkAgainst(t, r, s[i:])
		for _, c := range []byte("\n \t\r\x00\xff?+-0129aitx") {
			checkAgainst(t, r, s[:i]+string([]byte{c})+s[i:])
			if i < len(s) {
				checkAgainst(t, r, s[:i]+string([]byte{c})+s[i+1:])
			}
		}
		if i < len(s) {
			checkAgainst(t, r, s[:i]+s[i+1:])
			checkAgainst(t, r, s[:i+1]+s[i:])
		}
	}
}

// TestChangedLines: P3.2 and P3.3, of a text whose lines are left out, doubled, or change places.
func TestChangedLines(t *testing.T) {
	r := newRules()
	lines := strings.SplitAfter("init 0\nthread\nisb\nthread\nmov 1 2\ninit\n?\n9223372036854775808\nmov 0 9223372036854775807\n", "\n")
	for i := range lines {
		for j := range lines {
			for k := range lines {
				for l := range lines {
					checkAgainst(t, r, lines[i]+lines[j]+lines[k]+lines[l])
				}
			}
		}
	}
}

// TestLong: P1; a text of many lines, and one of long lines, are answered for as all others are.
func TestLong(t *testing.T) {
	const n = 20000
	digits := strings.Repeat("9", n)
	runFaults(t, []faultCase{
		{"init 0\n" + strings.Repeat("thread\n", n), n + 1, api.ErrArg},
		{"init 0\nthread\n" + strings.Repeat("isb\n", n), n + 2, api.ErrArg},
		{"init" + strings.Repeat(" 0", n) + "\nthread\nisb\n", 3, api.ErrArg},
		{"init" + strings.Repeat(" ", n) + "\nthread\nisb\n", 0, api.ErrForm},
		{"init " + digits + "\nthread\nisb\n", 0, api.ErrForm},
		{"init 0\nthread\nmov 0 -" + digits + "\n", 2, api.ErrForm},
		{strings.Repeat("\n", n), 0, api.ErrForm},
	})
	checkNoLine(t, "mov"+strings.Repeat(" 0", n))
}
