package conv_test

import (
	"bytes"
	"math"
	"math/bits"
	"slices"
	"testing"

	"hypocaust/api"
	"hypocaust/conv"
	"hypocaust/gf"
)

// mixer tells bytes that look mixed, the same ones each time.
type mixer uint64

func (m *mixer) bytes(n int) []byte {
	b := make([]byte, n)
	for i := range b {
		*m = *m*6364136223846793005 + 1442695040888963407
		b[i] = byte(*m >> 40)
	}
	return b
}

func (m *mixer) rows(count, n int) [][]byte {
	l := make([][]byte, count)
	for i := range l {
		l[i] = m.bytes(n)
	}
	return l
}

// stripes tells three stripes whose parities are any bytes.
func (m *mixer) stripes(n int) [][][]byte {
	return [][][]byte{m.rows(6, n), m.rows(6, n), m.rows(6, n)}
}

// coef is what the shard of x is multiplied with in the parity of y, reckoned by the field alone.
func coef(f *gf.Field, y, x int) byte {
	inverse, _ := f.Inv(byte(y) ^ byte(x))
	return inverse
}

// parity tells the parity of y of data, that stand at x and on, reckoned by the field alone.
func parity(f *gf.Field, y, x int, data [][]byte) []byte {
	sums := make([]byte, len(data[0]))
	for i, row := range data {
		for at, c := range row {
			sums[at] ^= f.Mul(coef(f, y, x+i), c)
		}
	}
	return sums
}

// whole gives three stripes the parities of their data.
func whole(f *gf.Field, stripes [][][]byte) [][][]byte {
	l := deep(stripes)
	for t := range l {
		for j := range 2 {
			l[t][4+j] = parity(f, 14+j, 4*t, l[t][:4])
		}
	}
	return l
}

// allData tells the data of all stripes, in order.
func allData(stripes [][][]byte) [][]byte {
	var l [][]byte
	for _, s := range stripes {
		l = append(l, s[:4]...)
	}
	return l
}

// summed tells the sum of rows.
func summed(rows ...[]byte) []byte {
	sums := make([]byte, len(rows[0]))
	for _, row := range rows {
		for at, x := range row {
			sums[at] ^= x
		}
	}
	return sums
}

// merged is what Merge is to tell, reckoned by the field alone.
func merged(f *gf.Field, stripes [][][]byte) [][]byte {
	data := allData(stripes)
	return [][]byte{
		summed(stripes[0][4], stripes[1][4], stripes[2][4]),
		summed(stripes[0][5], stripes[1][5], stripes[2][5]),
		parity(f, 16, 0, data),
		parity(f, 17, 0, data),
	}
}

// copied tells rows in memory of their own; a nil one stays nil.
func copied(rows [][]byte) [][]byte {
	if rows == nil {
		return nil
	}
	l := make([][]byte, len(rows))
	for i, row := range rows {
		if row != nil {
			l[i] = append([]byte{}, row...)
		}
	}
	return l
}

// deep tells stripes in memory of their own.
func deep(stripes [][][]byte) [][][]byte {
	l := make([][][]byte, len(stripes))
	for i, s := range stripes {
		l[i] = copied(s)
	}
	return l
}

// same tells whether two lists are the same, nil and empty rows told apart.
func same(a, b [][]byte) bool {
	return slices.EqualFunc(a, b, func(x, y []byte) bool { return bytes.Equal(x, y) && (x == nil) == (y == nil) })
}

// roomy tells rows, each with spare room behind it, in a list with spare room behind it.
func roomy(rows [][]byte) [][]byte {
	l := make([][]byte, 0, len(rows)+3)
	for _, row := range rows {
		if row != nil {
			row = append(make([]byte, 0, len(row)+5), row...)
		}
		l = append(l, row)
	}
	return l
}

// roomyStripes is roomy of each stripe, in a list with spare room behind it.
func roomyStripes(stripes [][][]byte) [][][]byte {
	l := make([][][]byte, 0, len(stripes)+2)
	for _, s := range stripes {
		l = append(l, roomy(s))
	}
	return l
}

// filled tells whether what lies behind rows and their list is not noughts and nils any more, as roomy made it.
func filled(l [][]byte) bool {
	for _, row := range l {
		if bytes.ContainsFunc(row[len(row):cap(row)], func(r rune) bool { return r != 0 }) {
			return true
		}
	}
	return slices.ContainsFunc(l[len(l):cap(l)], func(row []byte) bool { return row != nil })
}

// untouched tells whether handed, that roomy made, is as it was; then all its bytes are changed, so that an answer that lies in them shows.
func untouched(t *testing.T, name string, handed, was [][]byte) {
	t.Helper()
	if !same(handed, was) || filled(handed) {
		t.Fatalf("%s changed what it was handed: %v", name, handed)
	}
	for _, row := range handed {
		spoil(row)
	}
	clear(handed)
}

// untouchedStripes is untouched of each stripe, and of their list.
func untouchedStripes(t *testing.T, name string, handed, was [][][]byte) {
	t.Helper()
	if len(handed) != len(was) || slices.ContainsFunc(handed[len(handed):cap(handed)], func(s [][]byte) bool { return s != nil }) {
		t.Fatalf("%s changed the list of stripes that it was handed", name)
	}
	for i := range handed {
		untouched(t, name, handed[i], was[i])
	}
}

// spoil changes all bytes of a row, its spare room's too.
func spoil(row []byte) {
	row = row[:cap(row)]
	for i := range row {
		row[i] ^= 0xa5
	}
}

// apart tells whether no two rows of a list share memory, their spare room's too; it spoils the rows.
func apart(t *testing.T, name string, rows [][]byte) {
	t.Helper()
	was := copied(rows)
	for i, row := range rows {
		spoil(row)
		for j := i + 1; j < len(rows); j++ {
			if !bytes.Equal(rows[j], was[j]) {
				t.Fatalf("%s: rows %d and %d of the answer share memory", name, i, j)
			}
		}
	}
}

// are tells whether all rows are there, and no error.
func are(t *testing.T, name string, got [][]byte, e api.Errno, want [][]byte) {
	t.Helper()
	if e != api.OK || !slices.EqualFunc(got, want, bytes.Equal) {
		t.Fatalf("%s = %v, %v, want %v", name, got, e, want)
	}
}

// refused tells whether there is nothing but ErrArg.
func refused(t *testing.T, name string, got [][]byte, e api.Errno) {
	t.Helper()
	if len(got) != 0 || e != api.ErrArg {
		t.Errorf("%s = %v, %v, want nothing, ErrArg", name, got, e)
	}
}

// outsiders are numbers that are no colours; four times some of them, or their last byte, is that of one.
func outsiders() []int {
	return []int{-1, -2, -64, 3, 4, 14, 64, 65, 256, 257, 1 << 32, 1 << 62, 1<<62 + 1, math.MinInt, math.MinInt + 1, math.MaxInt}
}

// Promise 5.1: Narrow.

func TestNarrowOfEachColour(t *testing.T) {
	f := gf.New()
	for colour := range 3 {
		c, e := conv.Narrow(f, colour)
		if c == nil || e != api.OK {
			t.Fatalf("Narrow of %d: a Code %v, %v", colour, c != nil, e)
		}
		if k, r := c.Size(); k != 4 || r != 2 {
			t.Errorf("colour %d: Size = %d, %d, want 4, 2", colour, k, r)
		}
		for j := range 2 {
			for i := range 4 {
				if got, want := c.Coef(j, i), coef(f, 14+j, 4*colour+i); got != want {
					t.Errorf("colour %d: Coef(%d, %d) = %d, want %d", colour, j, i, got, want)
				}
			}
		}
	}
}

func TestNarrowRefuses(t *testing.T) {
	f := gf.New()
	for _, colour := range outsiders() {
		if c, e := conv.Narrow(f, colour); c != nil || e != api.ErrArg {
			t.Errorf("Narrow of %d: a Code %v, %v, want none, ErrArg", colour, c != nil, e)
		}
	}
	for colour := -2; colour < 5; colour++ {
		if c, e := conv.Narrow(nil, colour); c != nil || e != api.ErrArg {
			t.Errorf("Narrow of no Field and %d: a Code %v, %v, want none, ErrArg", colour, c != nil, e)
		}
	}
}

// Promise 5.1: Wide.

func TestWideCoefs(t *testing.T) {
	f := gf.New()
	c, e := conv.Wide(f)
	if c == nil || e != api.OK {
		t.Fatalf("Wide: a Code %v, %v", c != nil, e)
	}
	if k, r := c.Size(); k != 14 || r != 4 {
		t.Errorf("Size = %d, %d, want 14, 4", k, r)
	}
	for j := range 4 {
		for i := range 14 {
			if got, want := c.Coef(j, i), coef(f, 14+j, i); got != want {
				t.Errorf("Coef(%d, %d) = %d, want %d", j, i, got, want)
			}
		}
	}
}

func TestWideRefuses(t *testing.T) {
	if c, e := conv.Wide(nil); c != nil || e != api.ErrArg {
		t.Errorf("Wide of no Field: a Code %v, %v, want none, ErrArg", c != nil, e)
	}
}

// Promise 5.2: Merge.

func TestMergeExamples(t *testing.T) {
	f := gf.New()
	noughts := func(n int) [][][]byte {
		l := make([][][]byte, 3)
		for i := range l {
			for range 6 {
				l[i] = append(l[i], make([]byte, n))
			}
		}
		return l
	}
	for n := 1; n <= 64; n++ {
		got, e := conv.Merge(f, noughts(n))
		are(t, "Merge of noughts", got, e, [][]byte{make([]byte, n), make([]byte, n), make([]byte, n), make([]byte, n)})
	}
	// 16 and 17 are y of the third and of the fourth; 2 is of the first stripe, 7 of the second, 9 of the third.
	for _, x := range []int{2, 7, 9} {
		l := noughts(1)
		l[x/4][x%4][0] = 1
		got, e := conv.Merge(f, l)
		are(t, "Merge of one 1", got, e, [][]byte{{0}, {0}, {coef(f, 16, x)}, {coef(f, 17, x)}})
	}
	l := noughts(2)
	l[0][4], l[1][4], l[2][4] = []byte{1, 16}, []byte{2, 32}, []byte{4, 16}
	l[0][5], l[1][5], l[2][5] = []byte{8, 8}, []byte{8, 3}, []byte{9, 255}
	got, e := conv.Merge(f, l)
	are(t, "Merge of parities", got, e, [][]byte{{7, 32}, {9, 8 ^ 3 ^ 255}, {0, 0}, {0, 0}})
}

func TestMergeOfAllLengths(t *testing.T) {
	f := gf.New()
	var mix mixer
	for n := 1; n <= 64; n++ {
		for range 3 {
			l := whole(f, mix.stripes(n))
			got, e := conv.Merge(f, l)
			are(t, "Merge of whole ones", got, e, merged(f, l))
			l = mix.stripes(n)
			got, e = conv.Merge(f, l)
			are(t, "Merge of any", got, e, merged(f, l))
		}
	}
}

// A parity that rotted tells so in the parity that is made of it, and the data in the others.
func TestMergeTakesEachShardForWhatItIs(t *testing.T) {
	f := gf.New()
	var mix mixer
	l := whole(f, mix.stripes(3))
	before, e := conv.Merge(f, l)
	if e != api.OK {
		t.Fatal(e)
	}
	for s := range 3 {
		for i := range 6 {
			turned := deep(l)
			turned[s][i][1] ^= 0x40
			got, e := conv.Merge(f, turned)
			are(t, "Merge of one that is turned", got, e, merged(f, turned))
			for j := range 4 {
				changes := i == 4+j || i < 4 && j > 1
				if bytes.Equal(got[j], before[j]) == changes {
					t.Errorf("shard %d of stripe %d turned: parity %d changes: %v", i, s, j, !changes)
				}
			}
		}
	}
}

// misfits tells lists of stripes that may not be merged, each by what is wrong with it; where at is 0 to 2 stripe at is well.
func misfits(mix *mixer, at int) map[string][][][]byte {
	l := map[string][][][]byte{
		"nil":              nil,
		"none":             {},
		"one":              {mix.rows(6, 3)},
		"two":              {mix.rows(6, 3), mix.rows(6, 3)},
		"four":             {mix.rows(6, 3), mix.rows(6, 3), mix.rows(6, 3), mix.rows(6, 3)},
		"three nils":       {nil, nil, nil},
		"of no bytes":      mix.stripes(0),
		"of 65 bytes":      mix.stripes(65),
		"of many bytes":    mix.stripes(1 << 12),
		"of six nils each": {make([][]byte, 6), make([][]byte, 6), make([][]byte, 6)},
		"all in one":       {mix.rows(18, 3), nil, nil},
		"shared unevenly":  {mix.rows(5, 3), mix.rows(7, 3), mix.rows(6, 3)},
		"shared otherwise": {mix.rows(6, 3), mix.rows(5, 3), mix.rows(7, 3)},
		"a third way":      {mix.rows(7, 3), mix.rows(6, 3), mix.rows(5, 3)},
	}
	put := func(name string, s int, stripe [][]byte) {
		stripes := mix.stripes(3)
		stripes[s] = stripe
		l["stripe "+string(rune('0'+s))+" "+name] = stripes
	}
	for s := range 3 {
		if s == at {
			continue
		}
		put("nil", s, nil)
		put("empty", s, [][]byte{})
		put("of four", s, mix.rows(4, 3))
		put("of five", s, mix.rows(5, 3))
		put("of seven", s, mix.rows(7, 3))
		put("of shorter ones", s, mix.rows(6, 2))
		put("of longer ones", s, mix.rows(6, 4))
		put("of 65", s, mix.rows(6, 65))
		put("of six nils", s, make([][]byte, 6))
		for i := range 6 {
			for name, row := range map[string][]byte{"nil": nil, "empty": {}, "shorter": mix.bytes(2), "longer": mix.bytes(4), "of 65": mix.bytes(65)} {
				stripe := mix.rows(6, 3)
				stripe[i] = row
				put("with shard "+string(rune('0'+i))+" "+name, s, stripe)
			}
		}
	}
	return l
}

func TestMergeRefuses(t *testing.T) {
	f := gf.New()
	var mix mixer
	for name, l := range misfits(&mix, -1) {
		got, e := conv.Merge(f, l)
		refused(t, "Merge of stripes, "+name, got, e)
		got, e = conv.Merge(nil, l)
		refused(t, "Merge of no Field and stripes, "+name, got, e)
	}
	got, e := conv.Merge(nil, mix.stripes(3))
	refused(t, "Merge of no Field", got, e)
}

func TestMergeLeavesWhatItIsHanded(t *testing.T) {
	f := gf.New()
	var mix mixer
	l := mix.stripes(5)
	handed := roomyStripes(l)
	got, e := conv.Merge(f, handed)
	untouchedStripes(t, "Merge", handed, l)
	are(t, "Merge", got, e, merged(f, l))
	apart(t, "Merge", got)
	got, e = conv.Merge(f, l)
	are(t, "Merge once more", got, e, merged(f, l))
}

// One row may be handed in at several places.
func TestMergeOfOneRowEverywhere(t *testing.T) {
	f := gf.New()
	var mix mixer
	row := mix.bytes(7)
	stripe := [][]byte{row, row, row, row, row, row}
	l := [][][]byte{stripe, stripe, stripe}
	got, e := conv.Merge(f, l)
	are(t, "Merge", got, e, merged(f, l))
	apart(t, "Merge", got)
	got, e = conv.Peel(f, 1, stripe[:4], l)
	are(t, "Peel", got, e, [][]byte{row, row})
	apart(t, "Peel", got)
}

// Promise 5.2: Split.

func TestSplitOfEachColour(t *testing.T) {
	f := gf.New()
	var mix mixer
	for colour := range 3 {
		for n := 1; n <= 64; n++ {
			data := mix.rows(4, n)
			got, e := conv.Split(f, colour, data)
			are(t, "Split", got, e, [][]byte{parity(f, 14, 4*colour, data), parity(f, 15, 4*colour, data)})
		}
		for _, data := range [][][]byte{{{}, {}, {}, {}}, {nil, nil, nil, nil}, {nil, {}, nil, {}}} {
			got, e := conv.Split(f, colour, data)
			are(t, "Split of no bytes", got, e, [][]byte{{}, {}})
		}
	}
}

func TestSplitRefuses(t *testing.T) {
	f := gf.New()
	var mix mixer
	for _, colour := range outsiders() {
		got, e := conv.Split(f, colour, mix.rows(4, 3))
		refused(t, "Split of no colour", got, e)
		got, e = conv.Split(f, colour, nil)
		refused(t, "Split of nothing of no colour", got, e)
	}
	for colour := range 3 {
		got, e := conv.Split(nil, colour, mix.rows(4, 3))
		refused(t, "Split of no Field", got, e)
		for name, data := range map[string][][]byte{
			"nil":                 nil,
			"none":                {},
			"three":               mix.rows(3, 3),
			"five":                mix.rows(5, 3),
			"six":                 mix.rows(6, 3),
			"twelve":              mix.rows(12, 3),
			"of 65 bytes":         mix.rows(4, 65),
			"a nil beside others": {nil, {1}, {2}, {3}},
			"one shorter":         {{1, 2}, {1, 2}, {1, 2}, {1}},
			"one longer":          {{1, 2}, {1, 2, 3}, {1, 2}, {1, 2}},
		} {
			got, e := conv.Split(f, colour, data)
			refused(t, "Split of data, "+name, got, e)
		}
	}
}

func TestSplitLeavesWhatItIsHanded(t *testing.T) {
	f := gf.New()
	var mix mixer
	data := mix.rows(4, 9)
	handed := roomy(data)
	got, e := conv.Split(f, 2, handed)
	untouched(t, "Split", handed, data)
	are(t, "Split", got, e, [][]byte{parity(f, 14, 8, data), parity(f, 15, 8, data)})
	apart(t, "Split", got)
}

// Promise 5.2: Peel.

func TestPeelUndoesMerge(t *testing.T) {
	f := gf.New()
	var mix mixer
	for n := 1; n <= 64; n++ {
		for _, l := range [][][][]byte{whole(f, mix.stripes(n)), mix.stripes(n)} {
			wide, e := conv.Merge(f, l)
			if e != api.OK {
				t.Fatal(e)
			}
			for at := range 3 {
				got, e := conv.Peel(f, at, wide, l)
				are(t, "Peel", got, e, l[at][4:])
			}
		}
	}
}

func TestPeelOfAnyStripeInItsPlace(t *testing.T) {
	f := gf.New()
	var mix mixer
	l := mix.stripes(6)
	wide := merged(f, l)
	for at := range 3 {
		for name, stripe := range map[string][][]byte{
			"nil":             nil,
			"empty":           {},
			"one":             {{1}},
			"six nils":        make([][]byte, 6),
			"six empty ones":  mix.rows(6, 0),
			"other bytes":     mix.rows(6, 6),
			"shorter":         mix.rows(6, 5),
			"of 65":           mix.rows(6, 65),
			"a great many":    make([][]byte, 1<<12),
			"unlike ones":     {{1}, nil, {1, 2, 3}, {}, {4}, {5, 6, 7, 8, 9, 0, 1}},
			"another's":       l[(at+1)%3],
			"data alone":      l[at][:4],
			"with a lost one": {l[at][0], nil, l[at][2], l[at][3], nil, l[at][5]},
		} {
			x := slices.Clone(l)
			x[at] = stripe
			got, e := conv.Peel(f, at, wide, x)
			are(t, "Peel with stripe "+name, got, e, l[at][4:])
		}
	}
}

// What is taken away is the parities of the others, from the first two: no shard beside these says anything.
func TestPeelOfAnyBytes(t *testing.T) {
	f := gf.New()
	var mix mixer
	for range 40 {
		l, wide := mix.stripes(8), mix.rows(4, 8)
		for at := range 3 {
			a, b := l[(at+1)%3], l[(at+2)%3]
			got, e := conv.Peel(f, at, wide, l)
			are(t, "Peel", got, e, [][]byte{summed(wide[0], a[4], b[4]), summed(wide[1], a[5], b[5])})
		}
	}
	l := [][][]byte{
		{{0}, {0}, {0}, {0}, {1}, {16}},
		{{9}, {9}, {9}, {9}, {2}, {32}},
		{{0}, {0}, {0}, {0}, {4}, {64}},
	}
	wide := [][]byte{{128}, {8}, {255}, {255}}
	for at, want := range [][][]byte{{{134}, {104}}, {{133}, {88}}, {{131}, {56}}} {
		got, e := conv.Peel(f, at, wide, l)
		are(t, "Peel", got, e, want)
	}
}

func TestPeelRefusesStripes(t *testing.T) {
	f := gf.New()
	var mix mixer
	wide := mix.rows(4, 3)
	for at := range 3 {
		for name, l := range misfits(&mix, at) {
			for _, n := range []int{3, 0, 2, 65} {
				got, e := conv.Peel(f, at, mix.rows(4, n), l)
				refused(t, "Peel of stripes, "+name, got, e)
			}
		}
		got, e := conv.Peel(nil, at, wide, mix.stripes(3))
		refused(t, "Peel of no Field", got, e)
	}
	for _, at := range outsiders() {
		got, e := conv.Peel(f, at, wide, mix.stripes(3))
		refused(t, "Peel of no colour", got, e)
		got, e = conv.Peel(f, at, wide, nil)
		refused(t, "Peel of no colour and no stripes", got, e)
		got, e = conv.Peel(f, at, wide, [][][]byte{mix.rows(6, 3), mix.rows(6, 3), mix.rows(6, 3), mix.rows(6, 3)})
		refused(t, "Peel of no colour and four stripes", got, e)
	}
}

func TestPeelRefusesParities(t *testing.T) {
	f := gf.New()
	var mix mixer
	bad := map[string][][]byte{
		"nil":         nil,
		"none":        {},
		"two":         mix.rows(2, 3),
		"three":       mix.rows(3, 3),
		"five":        mix.rows(5, 3),
		"sixteen":     mix.rows(16, 3),
		"four nils":   make([][]byte, 4),
		"no bytes":    mix.rows(4, 0),
		"shorter":     mix.rows(4, 2),
		"longer":      mix.rows(4, 4),
		"of 65 bytes": mix.rows(4, 65),
	}
	for j := range 4 {
		for _, n := range []int{0, 2, 4, 65} {
			wide := mix.rows(4, 3)
			wide[j] = mix.bytes(n)
			bad["with one of another length "+string(rune('0'+j))+string(rune('0'+n))] = wide
		}
		wide := mix.rows(4, 3)
		wide[j] = nil
		bad["with a nil "+string(rune('0'+j))] = wide
	}
	for at := range 3 {
		for name, wide := range bad {
			got, e := conv.Peel(f, at, wide, mix.stripes(3))
			refused(t, "Peel of parities, "+name, got, e)
		}
	}
}

func TestPeelLeavesWhatItIsHanded(t *testing.T) {
	f := gf.New()
	var mix mixer
	l := mix.stripes(5)
	wide := merged(f, l)
	for at := range 3 {
		stripes, parities := roomyStripes(l), roomy(wide)
		got, e := conv.Peel(f, at, parities, stripes)
		untouchedStripes(t, "Peel", stripes, l)
		untouched(t, "Peel", parities, wide)
		are(t, "Peel", got, e, l[at][4:])
		apart(t, "Peel", got)
	}
}

// Promise 5.2: Stored.

func TestStoredInOneRow(t *testing.T) {
	var mix mixer
	for k := range 15 {
		for r := range 5 {
			data, parities := mix.rows(k, 1+k), mix.rows(r, 2)
			got := conv.Stored(data, parities)
			if !same(got, slices.Concat(data, parities)) {
				t.Fatalf("Stored of %v and %v = %v", data, parities, got)
			}
		}
	}
	for _, x := range [][2][][]byte{{nil, nil}, {{}, nil}, {nil, {}}, {{}, {}}} {
		if got := conv.Stored(x[0], x[1]); len(got) != 0 {
			t.Errorf("Stored of none = %v", got)
		}
	}
}

// A shard that is nil is missing, one that is empty is there: so they stay.
func TestStoredKeepsWhatIsMissing(t *testing.T) {
	data, parities := [][]byte{nil, {}, {1}, nil}, [][]byte{{}, nil, {2, 3}}
	if got := conv.Stored(data, parities); !same(got, [][]byte{nil, {}, {1}, nil, {}, nil, {2, 3}}) {
		t.Errorf("Stored of %v and %v = %v", data, parities, got)
	}
}

func TestStoredLeavesWhatItIsHanded(t *testing.T) {
	var mix mixer
	data, parities := mix.rows(4, 6), mix.rows(2, 6)
	handedData, handedParities := roomy(data), roomy(parities)
	got := conv.Stored(handedData, handedParities)
	untouched(t, "Stored", handedData, data)
	untouched(t, "Stored", handedParities, parities)
	if !same(got, slices.Concat(data, parities)) {
		t.Errorf("Stored = %v", got)
	}
	apart(t, "Stored", got)
	row := mix.bytes(4)
	apart(t, "Stored of one row twice", conv.Stored([][]byte{row, row}, [][]byte{row}))
}

// Promise 5.3: of three narrow stripes and of all their data the same wide one is made.

func TestMergeIsWideOfAllData(t *testing.T) {
	f := gf.New()
	w, e := conv.Wide(f)
	if e != api.OK {
		t.Fatal(e)
	}
	var mix mixer
	for n := 1; n <= 64; n++ {
		var l [][][]byte
		for colour := range 3 {
			data := mix.rows(4, n)
			parities, e := conv.Split(f, colour, data)
			if e != api.OK {
				t.Fatal(e)
			}
			l = append(l, conv.Stored(data, parities))
		}
		got, e := conv.Merge(f, l)
		want, g := w.Encode(append(allData(l), make([]byte, n), make([]byte, n)))
		if g != api.OK {
			t.Fatal(g)
		}
		are(t, "Merge", got, e, want)
	}
}

// A merge of one byte in each place says that no place is taken for another.
func TestMergeIsWideOfEachPlace(t *testing.T) {
	f := gf.New()
	for x := range 12 {
		for _, c := range []byte{1, 2, 128, 255} {
			l := make([][][]byte, 3)
			for s := range l {
				for range 6 {
					l[s] = append(l[s], []byte{0})
				}
			}
			l[x/4][x%4][0] = c
			l = whole(f, l)
			got, e := conv.Merge(f, l)
			var want [][]byte
			for j := range 4 {
				want = append(want, []byte{f.Mul(coef(f, 14+j, x), c)})
			}
			are(t, "Merge", got, e, want)
		}
	}
}

// W3: any four of the sixteen that are kept may be lost, any two of the six behind it when it is split off.
func TestAnyFourOfSixteenAreLost(t *testing.T) {
	f := gf.New()
	var mix mixer
	l := whole(f, mix.stripes(4))
	wide, e := conv.Merge(f, l)
	if e != api.OK {
		t.Fatal(e)
	}
	w, _ := conv.Wide(f)
	all := append(append(allData(l), make([]byte, 4), make([]byte, 4)), wide...)
	for mask := range 1 << 18 {
		if bits.OnesCount(uint(mask)) == 4 && mask>>12&3 == 0 {
			got, e := w.Decode(without(all, mask))
			are(t, "Decode", got, e, all)
		}
	}
	for at := range 3 {
		parities, e := conv.Peel(f, at, wide, l)
		if e != api.OK {
			t.Fatal(e)
		}
		c, _ := conv.Narrow(f, at)
		six := conv.Stored(l[at][:4], parities)
		if ok, e := c.Check(six); !ok || e != api.OK {
			t.Fatalf("Check of what was split off = %v, %v", ok, e)
		}
		for mask := range 1 << 6 {
			if bits.OnesCount(uint(mask)) == 2 {
				got, e := c.Decode(without(six, mask))
				are(t, "Decode", got, e, six)
			}
		}
	}
}

// without tells all but those of mask's bits, which are nil.
func without(all [][]byte, mask int) [][]byte {
	l := slices.Clone(all)
	for i := range l {
		if mask>>i&1 == 1 {
			l[i] = nil
		}
	}
	return l
}

// W7: what is split off and merged again is as it was, as often as one likes.
func TestThereAndBack(t *testing.T) {
	f := gf.New()
	var mix mixer
	l := whole(f, mix.stripes(16))
	wide, e := conv.Merge(f, l)
	if e != api.OK {
		t.Fatal(e)
	}
	for round := range 30 {
		at := round % 3
		apartOf := slices.Clone(l)
		apartOf[at] = nil
		peeled, e := conv.Peel(f, at, wide, apartOf)
		are(t, "Peel", peeled, e, l[at][4:])
		coded, e := conv.Split(f, at, l[at][:4])
		are(t, "Split", coded, e, peeled)
		apartOf[at] = conv.Stored(l[at][:4], peeled)
		again, e := conv.Merge(f, apartOf)
		are(t, "Merge", again, e, wide)
		wide = again
	}
}

// Rules: no call is changed by another; Codes are apart.

func TestSameAnswerEachTime(t *testing.T) {
	f := gf.New()
	var mix mixer
	l := mix.stripes(3)
	for range 10 {
		conv.Merge(f, mix.stripes(3))
		conv.Merge(f, mix.stripes(65))
		conv.Peel(f, 7, mix.rows(4, 3), l)
		conv.Split(f, 1, mix.rows(4, 3))
		a, e := conv.Narrow(f, 0)
		b, g := conv.Narrow(f, 0)
		if a == b || e != api.OK || g != api.OK {
			t.Fatalf("Narrow gave one Code twice, or none: %v, %v", e, g)
		}
		got, e := conv.Merge(f, l)
		are(t, "Merge", got, e, merged(f, l))
	}
}

// Promise 5.4: every call ends and none panics.

func TestNoCallPanics(t *testing.T) {
	defer func() {
		if p := recover(); p != nil {
			t.Errorf("a call panicked: %v", p)
		}
	}()
	var mix mixer
	lists := [][][]byte{nil, {}, {nil}, {{}}, {{1}}, make([][]byte, 4), make([][]byte, 6), make([][]byte, 5000), {nil, {1, 2}, {}, nil, {3}, make([]byte, 1<<16)}}
	for _, n := range []int{0, 1, 64, 65} {
		for _, count := range []int{1, 3, 4, 5, 6, 7, 16} {
			lists = append(lists, mix.rows(count, n))
		}
	}
	groups := [][][][]byte{nil, {}, {nil}, {nil, nil, nil}, make([][][]byte, 5000)}
	for i, a := range lists {
		for j, b := range lists {
			groups = append(groups, [][][]byte{a, b}, [][][]byte{a, b, lists[(i+j)%len(lists)]}, [][][]byte{a, a, b})
		}
	}
	for _, f := range []*gf.Field{nil, gf.New()} {
		conv.Wide(f)
		for _, colour := range append(outsiders(), 0, 1, 2) {
			c, e := conv.Narrow(f, colour)
			if (c == nil) != (e != api.OK) {
				t.Fatalf("Narrow: a Code %v, %v", c != nil, e)
			}
			for _, data := range lists {
				answers(t, f, colour, data, groups)
			}
		}
		for _, l := range groups {
			if got, e := conv.Merge(f, l); (len(got) == 4) != (e == api.OK) {
				t.Fatalf("Merge = %v, %v", got, e)
			}
		}
	}
}

// answers calls all that takes a colour with these.
func answers(t *testing.T, f *gf.Field, colour int, rows [][]byte, groups [][][][]byte) {
	t.Helper()
	if got, e := conv.Split(f, colour, rows); (len(got) == 2) != (e == api.OK) {
		t.Fatalf("Split = %v, %v", got, e)
	}
	conv.Stored(rows, rows)
	for _, l := range groups {
		if got, e := conv.Peel(f, colour, rows, l); (len(got) == 2) != (e == api.OK) {
			t.Fatalf("Peel = %v, %v", got, e)
		}
	}
}
