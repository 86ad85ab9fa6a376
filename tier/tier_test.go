package tier_test

import (
	"fmt"
	"math"
	"math/big"
	"regexp"
	"slices"
	"strconv"
	"strings"
	"testing"

	"hypocaust/api"
	"hypocaust/heat"
	"hypocaust/tier"
)

// most is the greatest number of a Table.
const most = 1000000

// example is the Table of the chapter's example, with an Add, a Top and a Half.
var example = api.Table{Hot: 10, Warm: 4, Gap: 2, Add: 3, Top: 20, Half: 1}

// exampleText is its Text.
const exampleText = "hot 10 warm 4 gap 2 add 3 top 20 half 1"

// mixer tells numbers that look mixed, the same ones each time.
type mixer uint64

func (m *mixer) below(n int) int {
	*m = *m*6364136223846793005 + 1442695040888963407
	return int(uint64(*m) >> 33 % uint64(n))
}

// upTo tells a number of 0 to n, the ends more often than others.
func (m *mixer) upTo(n int) int {
	switch m.below(5) {
	case 0:
		return 0
	case 1:
		return n
	}
	return m.below(n + 1)
}

// table tells a Table that Check takes.
func (m *mixer) table() api.Table {
	t := api.Table{Top: m.upTo(most), Add: m.upTo(most), Half: m.upTo(30)}
	if m.below(2) == 0 {
		t.Top = m.upTo(30) // small ones, whose borders are close
	}
	t.Hot = m.upTo(t.Top)
	t.Warm = m.upTo(t.Hot)
	t.Gap = m.upTo(t.Warm)
	return t
}

// strange are numbers that few things have, rising.
func strange() []int {
	return []int{math.MinInt, math.MinInt + 1, -1 << 62, -1 << 32, math.MinInt32, -most - 1, -most, -31, -2, -1, 0, 1, 2, 3, 9, 10, 29, 30, 31, 63, 64, 255, 256, 1 << 16, most - 1, most, most + 1, 2 * most, 9999999, 10000000, math.MaxInt32, 1 << 32, 1<<32 + 1, 1 << 62, math.MaxInt - most, math.MaxInt - 1, math.MaxInt}
}

// kinds are those of stripes, and numbers that are none.
func kinds() []int {
	return []int{api.KMirror, api.KNarrow, api.KWide, 0, 4, -1, math.MinInt, math.MaxInt}
}

// of makes the Table of these six numbers.
func of(l ...int) api.Table {
	return api.Table{Hot: l[0], Warm: l[1], Gap: l[2], Add: l[3], Top: l[4], Half: l[5]}
}

// numbers tells the six numbers of a Table.
func numbers(t api.Table) []int {
	return []int{t.Hot, t.Warm, t.Gap, t.Add, t.Top, t.Half}
}

// within tells whether n is one of least, least + 1 .. greatest.
func within(n, least, greatest int) bool {
	return n >= least && n <= greatest
}

// checked is Check as the chapter words it: what a Table must be, where the program tells what it must not.
func checked(t api.Table) api.Errno {
	chain := within(t.Gap, 0, t.Warm) && within(t.Warm, t.Gap, t.Hot) && within(t.Hot, t.Warm, t.Top) && within(t.Top, t.Hot, most)
	if chain && within(t.Add, 0, most) && within(t.Half, 0, 30) {
		return api.OK
	}
	return api.ErrTable
}

// wrapped tells which int n is modulo 2^64.
func wrapped(n *big.Int) int {
	whole := new(big.Int).Lsh(big.NewInt(1), 64)
	n.Mod(n, whole)
	if n.Bit(63) == 1 {
		n.Sub(n, whole)
	}
	return int(n.Int64())
}

// sum and less tell what a and b are together, and what a is without b, modulo 2^64, by numbers that have no bound.
func sum(a, b int) int {
	return wrapped(new(big.Int).Add(big.NewInt(int64(a)), big.NewInt(int64(b))))
}

func less(a, b int) int {
	return wrapped(new(big.Int).Sub(big.NewInt(int64(a)), big.NewInt(int64(b))))
}

// target is Target as the chapter words it.
func target(t api.Table, kind, heat int) int {
	mirror := heat >= t.Hot
	if kind == api.KMirror {
		mirror = mirror || heat >= less(t.Hot, t.Gap)
	}
	wide := heat < t.Warm
	if kind == api.KWide {
		wide = wide || heat < sum(t.Warm, t.Gap)
	}
	switch {
	case mirror:
		return api.KMirror
	case wide:
		return api.KWide
	}
	return api.KNarrow
}

// checkIs tells whether Check tells e of t.
func checkIs(t *testing.T, x api.Table, e api.Errno) {
	t.Helper()
	if got := tier.Check(x); got != e {
		t.Fatalf("Check(%+v) = %d, want %d", x, got, e)
	}
}

// targetIs tells whether Target tells the kind that it should.
func targetIs(t *testing.T, x api.Table, kind, heat, want int) {
	t.Helper()
	if got := tier.Target(x, kind, heat); got != want {
		t.Fatalf("Target(%+v, %d, %d) = %d, want %d", x, kind, heat, got, want)
	}
}

// parseIs tells whether Parse tells x and e of s.
func parseIs(t *testing.T, s string, x api.Table, e api.Errno) {
	t.Helper()
	if got, err := tier.Parse(s); got != x || err != e {
		t.Fatalf("Parse(%.200q) = %+v, %d, want %+v, %d", s, got, err, x, e)
	}
}

// Promise 17.1: Check.

func TestCheck(t *testing.T) {
	for _, x := range []struct {
		table api.Table
		e     api.Errno
	}{
		{of(0, 0, 0, 0, 0, 0), api.OK},
		{example, api.OK},
		{of(10, 4, 2, 3, 10, 1), api.OK},
		{of(4, 4, 4, 0, 4, 30), api.OK},
		{of(most, most, most, most, most, 30), api.OK},
		{of(most, 0, 0, 0, most, 0), api.OK},
		{of(0, 0, 0, most, 0, 0), api.OK}, // Add may be above Top
		{of(10, 4, 2, 3, 9, 1), api.ErrTable},
		{of(3, 4, 2, 3, 10, 1), api.ErrTable},
		{of(10, 4, 5, 3, 10, 1), api.ErrTable},
		{of(10, 4, 2, 3, 10, 31), api.ErrTable},
		{of(1, 0, 0, 0, 0, 0), api.ErrTable},
		{of(0, 1, 0, 0, 1, 0), api.ErrTable},
		{of(1, 0, 1, 0, 1, 0), api.ErrTable},
	} {
		checkIs(t, x.table, x.e)
	}
}

// Each number by itself: the least and the greatest that it may be, and one beyond.
func TestCheckOfEachNumber(t *testing.T) {
	middle := []int{500, 400, 300, 500, 600, 15}
	for i, ends := range [][2]int{{400, 600}, {300, 500}, {0, 400}, {0, most}, {500, most}, {0, 30}} {
		for _, n := range append(strange(), ends[0]-1, ends[0], ends[0]+1, ends[1]-1, ends[1], ends[1]+1) {
			l := slices.Clone(middle)
			l[i] = n
			want := api.ErrTable
			if within(n, ends[0], ends[1]) {
				want = api.OK
			}
			checkIs(t, of(l...), want)
		}
	}
}

// A number is held to its own bounds where the others do not bound it: each below 0, and each above all that it may be.
func TestCheckBounds(t *testing.T) {
	for i := range 6 {
		low := make([]int, 6)
		high := []int{most, most, most, most, most, 30}
		checkIs(t, of(low...), api.OK)
		checkIs(t, of(high...), api.OK)
		low[i]--
		high[i]++
		checkIs(t, of(low...), api.ErrTable)
		checkIs(t, of(high...), api.ErrTable)
	}
	for _, n := range []int{-1, most + 1, math.MinInt, math.MaxInt} { // in order, but all beyond
		checkIs(t, of(n, n, n, 0, n, 0), api.ErrTable)
	}
}

// All orders of small numbers.
func TestCheckOfSmallTables(t *testing.T) {
	taken := 0
	for hot := -1; hot < 6; hot++ {
		for warm := -1; warm < 6; warm++ {
			for gap := -1; gap < 6; gap++ {
				for top := -1; top < 6; top++ {
					for _, add := range []int{-1, 0, 7, most, most + 1} {
						for _, half := range []int{-1, 0, 30, 31} {
							x := of(hot, warm, gap, add, top, half)
							checkIs(t, x, checked(x))
							if checked(x) == api.OK {
								taken++
							}
						}
					}
				}
			}
		}
	}
	if taken != 126*6 { // rising rows of four of six numbers, alike ones too; by three Adds and two Halfs
		t.Fatalf("%d were taken", taken)
	}
}

func TestCheckOfMixedTables(t *testing.T) {
	mix := mixer(17)
	for range 20000 {
		l := numbers(mix.table())
		checkIs(t, of(l...), api.OK)
		for range 1 + mix.below(2) {
			i := mix.below(6)
			switch mix.below(4) {
			case 0:
				l[i] = strange()[mix.below(len(strange()))]
			case 1:
				l[i] = l[mix.below(6)]
			default:
				l[i] += mix.below(3) - 1
			}
		}
		x := of(l...)
		checkIs(t, x, checked(x))
	}
}

// Promise 17.1: Target.

// row tells a heat's letter each, from 0 on, of the kind that Target tells: mirrored, narrow, wide.
func row(x api.Table, kind, heats int) string {
	var b strings.Builder
	for n := range heats {
		b.WriteByte("?mnw"[tier.Target(x, kind, n)])
	}
	return b.String()
}

func TestExamples(t *testing.T) {
	targetIs(t, example, api.KMirror, 9, api.KMirror)
	targetIs(t, example, api.KNarrow, 9, api.KNarrow)
}

func TestTarget(t *testing.T) {
	for _, x := range []struct {
		table api.Table
		kind  int
		want  string
	}{
		{example, api.KMirror, "wwwwnnnnmmmmm"},
		{example, api.KNarrow, "wwwwnnnnnnmmm"},
		{example, api.KWide, "wwwwwwnnnnmmm"},
		{example, 0, "wwwwnnnnnnmmm"},
		{example, 4, "wwwwnnnnnnmmm"},
		{example, -1, "wwwwnnnnnnmmm"},
		{of(10, 4, 0, 0, 20, 0), api.KMirror, "wwwwnnnnnnmmm"}, // no gap: all kinds alike
		{of(10, 4, 0, 0, 20, 0), api.KWide, "wwwwnnnnnnmmm"},
		{of(10, 4, 4, 0, 20, 0), api.KMirror, "wwwwnnmmmmmmm"},
		{of(10, 4, 4, 0, 20, 0), api.KWide, "wwwwwwwwnnmmm"},
		{of(6, 5, 3, 0, 20, 0), api.KMirror, "wwwmmmmmmm"}, // the gaps go over each other's borders: Hot is asked first
		{of(6, 5, 3, 0, 20, 0), api.KNarrow, "wwwwwnmmmm"},
		{of(6, 5, 3, 0, 20, 0), api.KWide, "wwwwwwmmmm"},
		{of(5, 5, 5, 0, 20, 0), api.KMirror, "mmmmmmm"},
		{of(5, 5, 5, 0, 20, 0), api.KNarrow, "wwwwwmm"},
		{of(5, 5, 5, 0, 20, 0), api.KWide, "wwwwwmm"},
		{of(0, 0, 0, 0, 0, 0), api.KMirror, "mmm"},
		{of(0, 0, 0, 0, 0, 0), api.KNarrow, "mmm"},
		{of(0, 0, 0, 0, 0, 0), api.KWide, "mmm"},
		{of(3, 0, 0, 0, 3, 0), api.KMirror, "nnnmm"},
		{of(3, 0, 0, 0, 3, 0), api.KWide, "nnnmm"},
	} {
		if got := row(x.table, x.kind, len(x.want)); got != x.want {
			t.Errorf("%+v, kind %d: %s, want %s", x.table, x.kind, got, x.want)
		}
	}
}

// Each border of a great Table, too: one below it, and at it.
func TestTargetAtGreatBorders(t *testing.T) {
	x := of(most, 700000, 600000, 0, most, 0)
	for _, at := range []struct{ kind, heat, under, from int }{
		{api.KMirror, 400000, api.KWide, api.KMirror},
		{api.KNarrow, 700000, api.KWide, api.KNarrow},
		{api.KNarrow, most, api.KNarrow, api.KMirror},
		{api.KWide, most, api.KWide, api.KMirror}, // Warm and Gap is above Hot
	} {
		targetIs(t, x, at.kind, at.heat-1, at.under)
		targetIs(t, x, at.kind, at.heat, at.from)
	}
}

// All small Tables, those that Check refuses too: a Gap below 0, borders the wrong way round.
func TestTargetOfSmallTables(t *testing.T) {
	for hot := -3; hot < 7; hot++ {
		for warm := -3; warm < 7; warm++ {
			for gap := -4; gap < 7; gap++ {
				for heat := -8; heat < 14; heat++ {
					for _, kind := range kinds() {
						x := of(hot, warm, gap, 1, 2, 3)
						targetIs(t, x, kind, heat, target(x, kind, heat))
					}
				}
			}
		}
	}
}

// Great numbers wrap round, as those modulo 2^64 do.
func TestTargetWrapsRound(t *testing.T) {
	for _, x := range []struct {
		table            api.Table
		kind, heat, want int
	}{
		{of(math.MinInt+5, 0, 10, 0, 0, 0), api.KMirror, math.MinInt + 4, api.KWide},      // Hot less Gap is MaxInt - 4
		{of(math.MaxInt, 0, -1, 0, 0, 0), api.KMirror, math.MinInt, api.KMirror},          // it is MinInt
		{of(math.MaxInt, 0, math.MinInt, 0, 0, 0), api.KMirror, -1, api.KMirror},          // it is -1
		{of(math.MaxInt, 0, math.MinInt, 0, 0, 0), api.KMirror, -2, api.KWide},            // just below
		{of(0, math.MinInt, math.MinInt, 0, 0, 0), api.KMirror, math.MinInt, api.KMirror}, // less MinInt is it again
		{of(math.MaxInt, math.MaxInt-1, 9, 0, 0, 0), api.KWide, math.MaxInt - 1, api.KNarrow},
		{of(math.MaxInt, 5, math.MaxInt, 0, 0, 0), api.KWide, 5, api.KNarrow}, // Warm and Gap is MinInt + 4
		{of(math.MaxInt, math.MinInt, -1, 0, 0, 0), api.KWide, math.MaxInt - 1, api.KWide},
		{of(math.MaxInt, math.MinInt, math.MinInt, 0, 0, 0), api.KWide, -1, api.KWide}, // it is 0
		{of(math.MaxInt, math.MinInt, math.MinInt, 0, 0, 0), api.KWide, 0, api.KNarrow},
	} {
		targetIs(t, x.table, x.kind, x.heat, x.want)
	}
}

func TestTargetOfStrangeNumbers(t *testing.T) {
	ends := []int{math.MinInt, math.MinInt + 1, -1 << 62, -most, -1, 0, 1, 10, most, 1 << 32, 1 << 62, math.MaxInt - 1, math.MaxInt}
	for _, hot := range ends {
		for _, warm := range ends {
			for _, gap := range ends {
				x := of(hot, warm, gap, 0, 0, 0)
				heats := append([]int{hot - 1, warm - 1, hot - gap, hot - gap - 1, warm + gap, warm + gap - 1}, ends...)
				for _, heat := range heats {
					for _, kind := range kinds()[:4] {
						targetIs(t, x, kind, heat, target(x, kind, heat))
					}
				}
			}
		}
	}
}

// Add, Top and Half are none of Target's matter.
func TestTargetAsksThreeNumbers(t *testing.T) {
	for _, n := range strange() {
		for i := 3; i < 6; i++ {
			l := numbers(example)
			l[i] = n
			for _, kind := range kinds() {
				if got, want := row(of(l...), kind, 14), row(example, kind, 14); got != want {
					t.Fatalf("%+v, kind %d: %s, want %s", of(l...), kind, got, want)
				}
			}
		}
	}
}

// Promise 17.2: Text.

func TestText(t *testing.T) {
	for _, x := range []struct {
		table api.Table
		want  string
	}{
		{example, exampleText},
		{of(0, 0, 0, 0, 0, 0), "hot 0 warm 0 gap 0 add 0 top 0 half 0"},
		{of(1, 2, 3, 4, 5, 6), "hot 1 warm 2 gap 3 add 4 top 5 half 6"},
		{of(most, most, most, most, most, 30), "hot 1000000 warm 1000000 gap 1000000 add 1000000 top 1000000 half 30"},
		{of(-1, -2, -most, math.MinInt, math.MinInt+1, -30), "hot 0 warm 0 gap 0 add 0 top 0 half 0"},
		{of(-1, 10, -1, 20, -1, 30), "hot 0 warm 10 gap 0 add 20 top 0 half 30"},
		{of(12345678, 9999999, 10000000, 1<<32, math.MaxInt, 1<<62), "hot 12345678 warm 9999999 gap 10000000 add 4294967296 top 9223372036854775807 half 4611686018427387904"},
	} {
		if got := tier.Text(x.table); got != x.want {
			t.Errorf("Text(%+v) = %q, want %q", x.table, got, x.want)
		}
	}
}

// text is Text as the chapter words it.
func text(x api.Table) string {
	l := numbers(x)
	for i, n := range l {
		l[i] = max(n, 0)
	}
	return fmt.Sprintf("hot %d warm %d gap %d add %d top %d half %d", l[0], l[1], l[2], l[3], l[4], l[5])
}

// Each number stands behind its own word, whatever it is.
func TestTextOfEachNumber(t *testing.T) {
	for i := range 6 {
		for _, n := range strange() {
			l := []int{1, 2, 3, 4, 5, 6}
			l[i] = n
			if got, want := tier.Text(of(l...)), text(of(l...)); got != want {
				t.Fatalf("%q, want %q", got, want)
			}
		}
	}
}

// Promise 17.2: Parse.

func TestParse(t *testing.T) {
	parseIs(t, exampleText, example, api.OK)
	parseIs(t, "hot 0 warm 0 gap 0 add 0 top 0 half 0", api.Table{}, api.OK)
	parseIs(t, "hot 5 warm 4 gap 3 add 2 top 6 half 1", of(5, 4, 3, 2, 6, 1), api.OK)
	parseIs(t, "hot 1000000 warm 1000000 gap 1000000 add 1000000 top 1000000 half 30", of(most, most, most, most, most, 30), api.OK)
}

// pattern is what a text must be, as the chapter words it; what Parse tells of it is in its groups.
var pattern = func() *regexp.Regexp {
	number := `(0|[1-9][0-9]{0,6})`
	return regexp.MustCompile(`\Ahot ` + number + ` warm ` + number + ` gap ` + number + ` add ` + number + ` top ` + number + ` half ` + number + `\z`)
}()

// isParsed tells whether Parse tells of s what it should by its pattern.
func isParsed(t *testing.T, s string) {
	t.Helper()
	groups := pattern.FindStringSubmatch(s)
	if groups == nil {
		parseIs(t, s, api.Table{}, api.ErrText)
		return
	}
	var l []int
	for _, g := range groups[1:] {
		n, err := strconv.Atoi(g)
		if err != nil {
			t.Fatal(err)
		}
		l = append(l, n)
	}
	if x := of(l...); checked(x) == api.OK {
		parseIs(t, s, x, api.OK)
	} else {
		parseIs(t, s, api.Table{}, api.ErrTable)
	}
}

// What is of the pattern, but no Table that Check takes, is refused by Check's error.
func TestParseOfRefusedTables(t *testing.T) {
	for _, s := range []string{
		"hot 10 warm 4 gap 2 add 3 top 9 half 1",
		"hot 3 warm 4 gap 2 add 3 top 20 half 1",
		"hot 10 warm 4 gap 5 add 3 top 20 half 1",
		"hot 10 warm 4 gap 2 add 3 top 20 half 31",
		"hot 10 warm 4 gap 2 add 1000001 top 20 half 1",
		"hot 10 warm 4 gap 2 add 9999999 top 20 half 1",
		"hot 10 warm 4 gap 2 add 3 top 1000001 half 1",
		"hot 9999999 warm 9999999 gap 9999999 add 9999999 top 9999999 half 9999999",
	} {
		parseIs(t, s, api.Table{}, api.ErrTable)
	}
}

// The text's own error is told ahead of Check's, wherever in it each is.
func TestParseTellsErrTextFirst(t *testing.T) {
	for _, s := range []string{
		"hot 10 warm 4 gap 2 add 3 top 9 half 01",
		"hot 010 warm 4 gap 2 add 3 top 9 half 1",
		"hot 10 warm 4 gap 2 add 3 top 9 half 1 ",
		"hot 10 warm 4 gap 2 add 3 top 9 hall 1",
		"hot 10 warm 4 gap 2 add 3 top 9",
		"hot 10 warm 40 gap 2 add 10000000 top 20 half 31",
	} {
		parseIs(t, s, api.Table{}, api.ErrText)
	}
}

// Numbers in each place: what is none, and what is none as it is written.
func TestParseOfNumbers(t *testing.T) {
	words := strings.Split("hot 1 warm 1 gap 1 add 1 top 1 half 1", " ")
	for i := 1; i < len(words); i += 2 {
		for _, n := range []string{"", "x", "00", "01", "007", "0000001", "00000000", "+1", "-1", "-0", "+0", "--1", "1_0", "0x1", "0b1", "1e0", "1.0", "1.", ".1", "1,0", "1x", "x1", "1\x00", "\x001", "1\t", "1\n", "\r1", "12345678", "10000000", "01000000", "00000001", "-999999", "+999999", "9223372036854775807", "9223372036854775808", "-9223372036854775808", "18446744073709551617", "99999999999999999999", "\u0661", "\uff11", "\u00b9", "\u00bd", "1\u00a0", "1/", "1:", "hot"} {
			l := slices.Clone(words)
			l[i] = n
			s := strings.Join(l, " ")
			isParsed(t, s)
			parseIs(t, s, api.Table{}, api.ErrText)
		}
		for _, n := range []string{"0", "1", "2", "9", "10", "30", "31", "99", "100", "1000000", "1000001", "1234567", "9999999"} {
			l := slices.Clone(words)
			l[i] = n
			isParsed(t, strings.Join(l, " "))
		}
	}
}

// Words in each place: other ones, and in other orders.
func TestParseOfWords(t *testing.T) {
	words := strings.Split(exampleText, " ")
	for i := 0; i < len(words); i += 2 {
		for _, w := range []string{"", "Hot", "HOT", "ho", "hott", "hot", "warm", "gap", "add", "top", "half", "x", "1", strings.ToUpper(words[i]), strings.ToUpper(words[i][:1]) + words[i][1:], words[i] + "\x00", "\ufeff" + words[i], words[i] + ":", words[i][1:], words[i][:len(words[i])-1]} {
			if w == words[i] {
				continue
			}
			l := slices.Clone(words)
			l[i] = w
			parseIs(t, strings.Join(l, " "), api.Table{}, api.ErrText)
		}
		for j := i + 2; j < len(words); j += 2 {
			l := slices.Clone(words)
			l[i], l[j] = l[j], l[i] // the words alone
			parseIs(t, strings.Join(l, " "), api.Table{}, api.ErrText)
			l[i+1], l[j+1] = l[j+1], l[i+1] // with their numbers
			parseIs(t, strings.Join(l, " "), api.Table{}, api.ErrText)
		}
	}
	for i := range words { // a number ahead of its word; too few words, too many
		l := slices.Clone(words)
		if i%2 == 0 {
			l[i], l[i+1] = l[i+1], l[i]
			parseIs(t, strings.Join(l, " "), api.Table{}, api.ErrText)
		}
		parseIs(t, strings.Join(words[:i], " "), api.Table{}, api.ErrText)
		parseIs(t, strings.Join(words[i+1:], " "), api.Table{}, api.ErrText)
		parseIs(t, strings.Join(slices.Delete(slices.Clone(words), i, i+1), " "), api.Table{}, api.ErrText)
		parseIs(t, strings.Join(slices.Insert(slices.Clone(words), i, words[i]), " "), api.Table{}, api.ErrText)
		parseIs(t, strings.Join(slices.Concat(words, words[:i+1]), " "), api.Table{}, api.ErrText)
	}
}

// Single blanks part the words, and nothing else does; there is nothing ahead, and nothing behind.
func TestParseOfBlanks(t *testing.T) {
	for i, c := range exampleText {
		if c != ' ' {
			continue
		}
		for _, between := range []string{"", "  ", "   ", "\t", "\n", "\r\n", "\v", "\x00", "_", ",", "=", " \t", "\t ", "\u00a0", "\u2003", " 0", " 0 "} {
			parseIs(t, exampleText[:i]+between+exampleText[i+1:], api.Table{}, api.ErrText)
		}
	}
	for _, s := range []string{" ", "  ", "\t", "\n", "\r\n", "\x00", "\u00a0", " x", " x 1", " half 1", " hot 10"} {
		parseIs(t, exampleText+s, api.Table{}, api.ErrText)
		parseIs(t, s+exampleText, api.Table{}, api.ErrText)
	}
	for _, s := range []string{"", " ", "           ", "            ", "hot", "hot ", "0", "table " + exampleText, exampleText + exampleText, exampleText + " " + exampleText} {
		parseIs(t, s, api.Table{}, api.ErrText)
	}
}

// Each byte made each other one, each taken out, each put in; each beginning and each end of a text.
func TestParseOfEachByte(t *testing.T) {
	for _, s := range []string{exampleText, "hot 100 warm 100 gap 100 add 100 top 1000000 half 30"} {
		for i := range len(s) {
			for c := range 256 {
				isParsed(t, s[:i]+string([]byte{byte(c)})+s[i+1:])
				isParsed(t, s[:i]+string([]byte{byte(c)})+s[i:])
			}
			isParsed(t, s[:i]+s[i+1:])
			isParsed(t, s[:i])
			isParsed(t, s[i:])
		}
		for c := range 256 {
			isParsed(t, s+string([]byte{byte(c)}))
		}
	}
}

func TestParseOfMixedTexts(t *testing.T) {
	mix := mixer(172)
	pieces := []string{"hot", "warm", "gap", "add", "top", "half", " ", " ", " ", "0", "1", "00", "9", "1000000", "-", "+", "x"}
	for range 20000 {
		s := tier.Text(mix.table())
		for range 1 + mix.below(3) {
			i := mix.below(len(s) + 1)
			j := min(len(s), i+mix.below(3))
			s = s[:i] + pieces[mix.below(len(pieces))] + s[j:]
		}
		isParsed(t, s)
	}
}

// Promise 17.2 with W7: what is told is read as it was.

func TestThereAndBack(t *testing.T) {
	mix := mixer(2)
	for range 20000 {
		x := mix.table()
		s := tier.Text(x)
		if want := text(x); s != want {
			t.Fatalf("Text(%+v) = %q, want %q", x, s, want)
		}
		parseIs(t, s, x, api.OK)
	}
}

// Each number by itself, up to all its digits.
func TestThereAndBackOfEachNumber(t *testing.T) {
	for n := 0; n <= most; n += 1 + n/64 {
		for _, x := range []api.Table{of(n, 0, 0, 0, most, 0), of(most, n, 0, 0, most, 0), of(most, most, n, 0, most, 0), of(0, 0, 0, n, 0, 0), of(0, 0, 0, 0, n, 0), of(0, 0, 0, 0, 0, n%31)} {
			parseIs(t, tier.Text(x), x, api.OK)
		}
	}
}

// What Check refuses is not read back: Text tells of it what it can, Parse refuses that, or tells another Table that Check takes.
func TestRefusedTablesAreNotReadBack(t *testing.T) {
	mix := mixer(3)
	for range 20000 {
		l := numbers(mix.table())
		l[mix.below(6)] = strange()[mix.below(len(strange()))]
		x := of(l...)
		isParsed(t, tier.Text(x))
		if y, e := tier.Parse(tier.Text(x)); e == api.OK && (y == x) != (checked(x) == api.OK) {
			t.Fatalf("%+v is read as %+v", x, y)
		}
	}
}

// Promise 17.3: a blob that is just at a border does not go to and fro.

// Who is in the tier in which it belongs belongs in it still: of all Tables and heats.
func TestTargetStays(t *testing.T) {
	stays := func(x api.Table, kind, heat int) {
		t.Helper()
		targetIs(t, x, tier.Target(x, kind, heat), heat, tier.Target(x, kind, heat))
	}
	for hot := -2; hot < 7; hot++ {
		for warm := -2; warm < 7; warm++ {
			for gap := -2; gap < 7; gap++ {
				for heat := -4; heat < 14; heat++ {
					for _, kind := range kinds() {
						stays(of(hot, warm, gap, 0, 0, 0), kind, heat)
					}
				}
			}
		}
	}
	mix := mixer(4)
	for range 20000 {
		x, all := mix.table(), strange()
		stays(x, kinds()[mix.below(4)], mix.upTo(most))
		stays(of(all[mix.below(len(all))], all[mix.below(len(all))], all[mix.below(len(all))], 0, 0, 0), kinds()[mix.below(4)], all[mix.below(len(all))])
	}
}

// moves tells the kinds that a blob has, one behind the other, as its heat is what heats tells.
func moves(x api.Table, kind int, heats []int) []int {
	l := []int{kind}
	for _, n := range heats {
		if k := tier.Target(x, l[len(l)-1], n); k != l[len(l)-1] {
			l = append(l, k)
		}
	}
	return l
}

// comesBack tells whether one of these kinds is there twice.
func comesBack(l []int) bool {
	sorted := slices.Sorted(slices.Values(l))
	return len(slices.Compact(sorted)) < len(l)
}

// Warmer by 1 and colder by 1 at any border: a Gap of 1 is enough.
func TestAtABorder(t *testing.T) {
	for _, x := range []api.Table{of(10, 4, 1, 0, 20, 0), example, of(10, 4, 4, 0, 20, 0), of(5, 5, 1, 0, 20, 0), of(5, 5, 5, 0, 20, 0), of(1, 1, 1, 0, 1, 0)} {
		for low := range 15 {
			for _, kind := range kinds()[:3] {
				var heats []int
				for i := range 50 {
					heats = append(heats, low+i%2)
				}
				if l := moves(x, kind, heats); comesBack(l) {
					t.Fatalf("%+v, heats %d and one more: it goes to and fro: %v", x, low, l[:min(len(l), 10)])
				}
			}
		}
	}
	without := of(10, 4, 0, 0, 20, 0) // it is the Gap that holds it
	for _, heats := range [][]int{{9, 10, 9, 10, 9}, {4, 3, 4, 3, 4}} {
		if l := moves(without, api.KNarrow, heats); !comesBack(l) || len(l) != 5 {
			t.Errorf("without a Gap: %v", l)
		}
	}
}

// Heats that are no further apart than the Gap: no kind that was left is come back to.
func TestWithinTheGap(t *testing.T) {
	mix := mixer(5)
	moved := 0
	for range 20000 {
		x := mix.table()
		if x.Gap == 0 {
			continue
		}
		low := max(0, []int{x.Hot, x.Hot - x.Gap, x.Warm, x.Warm + x.Gap}[mix.below(4)]-mix.upTo(x.Gap))
		var heats []int
		for range 20 {
			heats = append(heats, low+mix.upTo(x.Gap))
		}
		l := moves(x, kinds()[mix.below(3)], heats)
		if comesBack(l) {
			t.Fatalf("%+v, heats %v: kinds %v", x, heats, l)
		}
		moved += len(l) - 1
	}
	if moved < 1000 {
		t.Fatalf("only %d moved", moved)
	}
}

// The Gap is all that is left: one beyond it, and a blob moves.
func TestBeyondTheGap(t *testing.T) {
	for hot := 1; hot < 9; hot++ {
		for warm := 1; warm < hot; warm++ {
			for gap := range warm + 1 {
				x := of(hot, warm, gap, 0, hot, 0)
				targetIs(t, x, api.KMirror, hot-gap, api.KMirror)
				if got := tier.Target(x, api.KMirror, hot-gap-1); got == api.KMirror {
					t.Fatalf("%+v: mirrored at %d", x, hot-gap-1)
				}
				if at := warm + gap; at < hot {
					targetIs(t, x, api.KWide, at, api.KNarrow)
				}
				targetIs(t, x, api.KWide, min(hot, warm+gap)-1, api.KWide)
			}
		}
	}
}

// Promise 17.3 with W6: it comes to rest.

// Warmer is never an outer tier's turn: of who is as warm, or warmer, the kind is the same or the next one.
func TestWarmerIsNoWider(t *testing.T) {
	for hot := range 8 {
		for warm := range hot + 1 {
			for gap := range warm + 1 {
				for _, kind := range kinds() {
					x := of(hot, warm, gap, 0, hot, 0)
					if r := []byte(row(x, kind, 20)); !slices.IsSortedFunc(r, func(a, b byte) int { return int(b) - int(a) }) {
						t.Fatalf("%+v, kind %d: %s", x, kind, r)
					}
				}
			}
		}
	}
}

// Who is not asked for grows cold, goes outwards alone, and rests where a heat of 0 belongs.
func TestWhoIsNotAskedComesToRest(t *testing.T) {
	mix := mixer(6)
	for range 300 {
		x := mix.table()
		x.Top, x.Hot = min(x.Top, 2000), min(x.Hot, 2000)
		x.Warm, x.Gap = min(x.Warm, 2000), min(x.Gap, 2000)
		h := heat.New()
		kind := kinds()[mix.below(3)]
		was := tier.Target(x, kind, h.Touch("k", mix.upTo(x.Top), x.Top))
		for h.Get("k") > 0 {
			h.Cool(x.Half)
			now := tier.Target(x, was, h.Get("k"))
			if now < was {
				t.Fatalf("%+v: at %d it goes from %d to %d", x, h.Get("k"), was, now)
			}
			was = now
		}
		for range 5 {
			targetIs(t, x, was, 0, was)
		}
		if x.Warm > 0 && x.Hot > x.Gap && was != api.KWide {
			t.Fatalf("%+v: it rests in %d", x, was)
		}
	}
}

// Promise 17.4: no call panics.

func TestNoCallPanics(t *testing.T) {
	defer func() {
		if p := recover(); p != nil {
			t.Errorf("a call panicked: %v", p)
		}
	}()
	all := strange()
	for i, a := range all {
		for j, b := range all {
			x := of(a, b, all[(i+j)%len(all)], b, a, all[(i*j)%len(all)])
			tier.Check(x)
			isParsed(t, tier.Text(x))
			for _, kind := range all {
				tier.Target(x, kind, a)
				tier.Target(x, kind, b)
			}
		}
	}
	for _, piece := range []string{"\x00", "\xff", " ", "  ", "0", "9", "hot ", "hot 0 ", exampleText, exampleText + " ", "\u0661", "\U0001f525"} {
		for _, n := range []int{1, 2, 5, 6, 11, 12, 13, 24, 1 << 16, 1 << 20} {
			if s := strings.Repeat(piece, n); s != exampleText {
				parseIs(t, s, api.Table{}, api.ErrText)
			}
		}
	}
	parseIs(t, exampleText[:4]+strings.Repeat("0", 1<<20)+exampleText[5:], api.Table{}, api.ErrText)
	parseIs(t, exampleText+strings.Repeat("0", 1<<20), api.Table{}, api.ErrText)
}
