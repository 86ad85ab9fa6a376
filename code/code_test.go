package code_test

import (
	"bytes"
	"math"
	"math/bits"
	"slices"
	"testing"

	"hypocaust/api"
	"hypocaust/code"
	"hypocaust/gf"
)

// mixer tells bytes that look mixed, the same ones each time.
type mixer uint64

func (m *mixer) bytes(n int) []byte {
	b := make([]byte, n)
	for i := range b {
		*m = *m*6364136223846793005 + 1442695040888963407
		b[i] = byte(*m >> 40)
	}
	return b
}

func (m *mixer) rows(count, n int) [][]byte {
	l := make([][]byte, count)
	for i := range l {
		l[i] = m.bytes(n)
	}
	return l
}

// rising tells n bytes, each by 1 above the one ahead of it.
func rising(from, n int) []byte {
	b := make([]byte, n)
	for i := range b {
		b[i] = byte(from + i)
	}
	return b
}

// rule is what a Code is made of; what it says is reckoned here by the field alone, without a Matrix.
type rule struct{ xs, ys []byte }

func (u rule) coef(f *gf.Field, j, i int) byte {
	inverse, _ := f.Inv(u.ys[j] ^ u.xs[i])
	return inverse
}

// parity tells parity j of data.
func (u rule) parity(f *gf.Field, j int, data [][]byte) []byte {
	sums := make([]byte, len(data[0]))
	for i, row := range data {
		for at, c := range row {
			sums[at] ^= f.Mul(u.coef(f, j, i), c)
		}
	}
	return sums
}

// whole tells data with all their parities.
func (u rule) whole(f *gf.Field, data [][]byte) [][]byte {
	all := slices.Clone(data)
	for j := range u.ys {
		all = append(all, u.parity(f, j, data))
	}
	return all
}

// rules are codes of unlike sizes: those that blobs are kept by, the least, the greatest, and mixed ones.
func rules() []rule {
	return []rule{
		{rising(0, 4), []byte{14, 15}},
		{rising(4, 4), []byte{14, 15}},
		{rising(8, 4), []byte{14, 15}},
		{rising(0, 14), rising(14, 4)},
		{[]byte{0}, []byte{1}},
		{[]byte{255}, []byte{0}},
		{[]byte{7}, []byte{3, 200, 9, 0}},
		{rising(100, 14), []byte{99}},
		{[]byte{200, 3, 77}, []byte{5, 0, 255, 128}},
		{[]byte{9, 8, 7, 6, 5}, []byte{1, 2, 3}},
	}
}

// made makes a Code that may be.
func made(t *testing.T, u rule) *code.Code {
	t.Helper()
	c, e := code.New(gf.New(), u.xs, u.ys)
	if c == nil || e != api.OK {
		t.Fatalf("New of %v and %v: a Code %v, %v", u.xs, u.ys, c != nil, e)
	}
	return c
}

// are tells whether all rows are there, nil none of them, and no error.
func are(t *testing.T, name string, got [][]byte, e api.Errno, want [][]byte) {
	t.Helper()
	if e != api.OK || !slices.EqualFunc(got, want, bytes.Equal) {
		t.Fatalf("%s = %v, %v, want %v", name, got, e, want)
	}
	for i, row := range got {
		if row == nil {
			t.Fatalf("%s: row %d is nil: it would be missing", name, i)
		}
	}
}

// copied tells rows in memory of their own; a nil one stays nil.
func copied(rows [][]byte) [][]byte {
	l := make([][]byte, len(rows))
	for i, row := range rows {
		if row != nil {
			l[i] = append([]byte{}, row...)
		}
	}
	return l
}

// same tells whether two lists are the same, nil and empty rows told apart.
func same(a, b [][]byte) bool {
	return slices.EqualFunc(a, b, func(x, y []byte) bool { return bytes.Equal(x, y) && (x == nil) == (y == nil) })
}

// without tells all but those of mask's bits, which are nil.
func without(all [][]byte, mask int) [][]byte {
	l := slices.Clone(all)
	for i := range l {
		if mask>>i&1 == 1 {
			l[i] = nil
		}
	}
	return l
}

// shaped tells rows of noughts of these lengths; below 0: nil.
func shaped(lengths ...int) [][]byte {
	l := make([][]byte, len(lengths))
	for i, n := range lengths {
		if n >= 0 {
			l[i] = make([]byte, n)
		}
	}
	return l
}

// roomy tells rows, each with spare room behind it, in a list with spare room behind it.
func roomy(rows [][]byte) [][]byte {
	l := make([][]byte, 0, len(rows)+3)
	for _, row := range rows {
		if row != nil {
			row = append(make([]byte, 0, len(row)+5), row...)
		}
		l = append(l, row)
	}
	return l
}

// filled tells whether what lies behind rows and their list is noughts and nils, as roomy made it.
func filled(l [][]byte) bool {
	for _, row := range l {
		if bytes.ContainsFunc(row[len(row):cap(row)], func(r rune) bool { return r != 0 }) {
			return true
		}
	}
	return slices.ContainsFunc(l[len(l):cap(l)], func(row []byte) bool { return row != nil })
}

// untouched tells whether handed, that roomy made, is as it was; then all its bytes are changed, so that an answer that lies in them shows.
func untouched(t *testing.T, name string, handed, was [][]byte) {
	t.Helper()
	if !same(handed, was) || filled(handed) {
		t.Fatalf("%s changed what it was handed: %v", name, handed)
	}
	for _, row := range handed {
		clear(row[:cap(row)])
	}
	clear(handed)
}

// Promise 4.1: New, Size.

func TestNewOfAllSizes(t *testing.T) {
	f := gf.New()
	for k := 1; k <= 14; k++ {
		for r := 1; r <= 4; r++ {
			u := rule{rising(k*r, k), rising(k*r+k, r)}
			c := made(t, u)
			if gotK, gotR := c.Size(); gotK != k || gotR != r {
				t.Fatalf("Size = %d, %d, want %d, %d", gotK, gotR, k, r)
			}
			for j := range r {
				for i := range k {
					if got, want := c.Coef(j, i), u.coef(f, j, i); got != want {
						t.Fatalf("%d and %d: Coef(%d, %d) = %d, want %d", k, r, j, i, got, want)
					}
				}
			}
		}
	}
}

func TestNewRefuses(t *testing.T) {
	f := gf.New()
	for _, c := range []struct {
		name   string
		f      *gf.Field
		xs, ys []byte
	}{
		{"no Field", nil, rising(0, 4), rising(14, 2)},
		{"nothing", nil, nil, nil},
		{"nil xs", f, nil, rising(14, 2)},
		{"no xs", f, []byte{}, rising(14, 2)},
		{"nil ys", f, rising(0, 4), nil},
		{"no ys", f, rising(0, 4), []byte{}},
		{"neither", f, nil, nil},
		{"15 xs", f, rising(0, 15), rising(20, 4)},
		{"5 ys", f, rising(0, 14), rising(20, 5)},
		{"the two the other way round", f, rising(0, 4), rising(20, 14)},
		{"a great many xs", f, make([]byte, 1<<20), rising(20, 1)},
		{"a great many ys", f, rising(0, 1), make([]byte, 1<<20)},
		{"two xs the same", f, []byte{1, 2, 3, 1}, rising(14, 2)},
		{"two xs the same, side by side", f, []byte{3, 3}, rising(14, 2)},
		{"two ys the same", f, rising(0, 4), []byte{14, 15, 14}},
		{"two of 0 in ys", f, rising(1, 4), []byte{0, 0}},
		{"the first x is a y", f, rising(14, 3), []byte{20, 14}},
		{"the last x is the first y", f, rising(0, 14), rising(13, 4)},
		{"one and the same", f, []byte{255}, []byte{255}},
		{"0 and 0", f, []byte{0}, []byte{0}},
		{"the last of all are the same", f, rising(0, 14), []byte{14, 15, 16, 13}},
	} {
		if got, e := code.New(c.f, c.xs, c.ys); got != nil || e != api.ErrArg {
			t.Errorf("New, %s: a Code %v, %v, want none, ErrArg", c.name, got != nil, e)
		}
	}
}

func TestNewTakesEachPairOfBytes(t *testing.T) {
	f := gf.New()
	for x := range 256 {
		for y := range 256 {
			c, e := code.New(f, []byte{byte(x)}, []byte{byte(y)})
			if (c == nil) != (x == y) || (e == api.ErrArg) != (x == y) {
				t.Fatalf("New of %d and %d: a Code %v, %v", x, y, c != nil, e)
			}
			if c == nil {
				continue
			}
			if got := f.Mul(c.Coef(0, 0), byte(x^y)); got != 1 {
				t.Fatalf("Coef of %d and %d, times their sum, = %d, want 1", x, y, got)
			}
		}
	}
}

func TestNewKeepsNoLists(t *testing.T) {
	room := []byte{9, 5, 7, 1, 2, 3, 4, 8}
	u := rule{room[:3], room[4:6]}
	c := made(t, u)
	if !bytes.Equal(room, []byte{9, 5, 7, 1, 2, 3, 4, 8}) {
		t.Errorf("New changed what it was handed: %v", room)
	}
	clear(room)
	f, before := gf.New(), rule{[]byte{9, 5, 7}, []byte{2, 3}}
	for j := range 2 {
		for i := range 3 {
			if got, want := c.Coef(j, i), before.coef(f, j, i); got != want {
				t.Errorf("behind a change of what was handed in: Coef(%d, %d) = %d, want %d", j, i, got, want)
			}
		}
	}
}

// Promise 4.1: Coef.

func TestCoefExamples(t *testing.T) {
	c := made(t, rule{[]byte{3, 5, 0}, []byte{2, 9, 1}})
	// 2^3 is 1; 1^3 is 2, whose Inv is 142; 2^5 is 7; 1^0 is 1.
	for _, x := range []struct {
		j, i int
		want byte
	}{{0, 0, 1}, {2, 0, 142}, {2, 2, 1}, {0, 2, 142}} {
		if got := c.Coef(x.j, x.i); got != x.want {
			t.Errorf("Coef(%d, %d) = %d, want %d", x.j, x.i, got, x.want)
		}
	}
	if got := gf.New().Mul(c.Coef(0, 1), 7); got != 1 {
		t.Errorf("Coef(0, 1) times 7 = %d, want 1", got)
	}
}

func TestCoefOfNone(t *testing.T) {
	for _, u := range rules() {
		c := made(t, u)
		for j := -20; j <= 20; j++ {
			for i := -20; i <= 20; i++ {
				there := j >= 0 && j < len(u.ys) && i >= 0 && i < len(u.xs)
				if got := c.Coef(j, i); (got != 0) != there {
					t.Fatalf("%d and %d: Coef(%d, %d) = %d", len(u.xs), len(u.ys), j, i, got)
				}
			}
		}
	}
	c := made(t, rule{rising(0, 4), rising(14, 2)})
	for _, x := range [][2]int{{math.MaxInt, 0}, {0, math.MaxInt}, {math.MinInt, 0}, {0, math.MinInt}, {math.MaxInt, math.MaxInt}, {math.MaxInt - 3, 3}, {1 << 62, 4}, {1 << 32, 1 << 32}} {
		if got := c.Coef(x[0], x[1]); got != 0 {
			t.Errorf("Coef(%d, %d) = %d, want 0", x[0], x[1], got)
		}
	}
}

// Promise 4.1: Encode.

func TestEncodeExamples(t *testing.T) {
	// Coefs: 1 and Inv of 2 of the first parity, Inv of 2 and 1 of the second.
	c := made(t, rule{[]byte{0, 3}, []byte{1, 2}})
	for _, x := range []struct{ data, want [][]byte }{
		{[][]byte{{0}, {0}}, [][]byte{{0}, {0}}},
		{[][]byte{{1}, {0}}, [][]byte{{1}, {142}}},
		{[][]byte{{0}, {1}}, [][]byte{{142}, {1}}},
		{[][]byte{{2}, {0}}, [][]byte{{2}, {1}}},
		{[][]byte{{2}, {2}}, [][]byte{{3}, {3}}},
		{[][]byte{{5, 0, 4}, {2, 4, 0}}, [][]byte{{5 ^ 1, 2, 4}, {2 ^ 140, 4, 2}}},
	} {
		got, e := c.Encode(x.data)
		are(t, "Encode", got, e, x.want)
	}
}

func TestEncodeOfAllRules(t *testing.T) {
	f := gf.New()
	var mix mixer
	for _, u := range rules() {
		c := made(t, u)
		for _, n := range []int{0, 1, 2, 15, 16, 17, 31, 32, 33, 63, 64} {
			data := mix.rows(len(u.xs), n)
			got, e := c.Encode(data)
			are(t, "Encode", got, e, u.whole(f, data)[len(u.xs):])
		}
	}
}

func TestEncodeOfOneShardThatIsNotNoughts(t *testing.T) {
	u := rule{rising(0, 14), rising(14, 4)}
	c := made(t, u)
	for i := range u.xs {
		data := shaped(slices.Repeat([]int{2}, len(u.xs))...)
		data[i][1] = 1
		got, e := c.Encode(data)
		var want [][]byte
		for j := range u.ys {
			want = append(want, []byte{0, c.Coef(j, i)})
		}
		are(t, "Encode", got, e, want)
	}
}

// What is encoded of no bytes is there, and may be handed on.
func TestEncodeOfNoBytes(t *testing.T) {
	c := made(t, rule{rising(0, 3), rising(14, 2)})
	for _, data := range [][][]byte{{{}, {}, {}}, {nil, nil, nil}, {nil, {}, nil}} {
		got, e := c.Encode(data)
		are(t, "Encode of no bytes", got, e, [][]byte{{}, {}})
	}
	parities, _ := c.Encode(make([][]byte, 3))
	whole, e := c.Decode([][]byte{nil, nil, {}, parities[0], parities[1]})
	are(t, "Decode of no bytes", whole, e, [][]byte{{}, {}, {}, {}, {}})
}

func TestEncodeRefuses(t *testing.T) {
	c := made(t, rule{rising(0, 3), rising(14, 2)})
	for _, data := range [][][]byte{
		nil, {}, shaped(1), shaped(1, 1), shaped(1, 1, 1, 1), shaped(1, 1, 1, 1, 1), make([][]byte, 1000),
		shaped(1, 1, 2), shaped(1, 2, 1), shaped(2, 1, 1), shaped(1, 1, 0), shaped(0, 1, 1), shaped(64, 64, 63),
		shaped(65, 65, 65), shaped(64, 64, 65), shaped(65, 64, 64), shaped(1<<20, 1<<20, 1<<20),
		shaped(-1, 1, 1), shaped(1, 1, -1), shaped(64, -1, 64),
	} {
		if got, e := c.Encode(data); len(got) != 0 || e != api.ErrArg {
			t.Errorf("Encode of %d rows = %v, %v, want none, ErrArg", len(data), got, e)
		}
	}
}

func TestEncodeLeavesDataAlone(t *testing.T) {
	u := rule{rising(0, 3), rising(14, 2)}
	c, f := made(t, u), gf.New()
	var mix mixer
	data := mix.rows(3, 9)
	want := u.whole(f, data)[3:]
	handed := roomy(data)
	first, e := c.Encode(handed)
	are(t, "Encode", first, e, want)
	untouched(t, "Encode", handed, data)
	are(t, "behind a change of what was handed in", first, e, want)
	second, e := c.Encode(data)
	for _, row := range first {
		clear(row[:cap(row)])
	}
	are(t, "behind a change of another answer", second, e, want)
}

// apart tells whether no two rows share memory, their spare room and that of their list too.
func apart(t *testing.T, name string, rows [][]byte) {
	t.Helper()
	for i, row := range rows {
		row = row[:cap(row)]
		for at := range row {
			row[at] = byte(i + 1)
		}
	}
	for i, row := range rows {
		row = row[:cap(row)]
		for at := range row {
			if row[at] != byte(i+1) {
				t.Fatalf("%s: two rows share memory", name)
			}
		}
	}
	for _, row := range rows[len(rows):cap(rows)] {
		if row != nil {
			t.Fatalf("%s: something lies behind the list", name)
		}
	}
}

func TestRowsOfAnAnswerAreApart(t *testing.T) {
	for _, u := range rules() {
		c := made(t, u)
		var mix mixer
		row := mix.bytes(16)
		// The same row in each place: each answer is new all the same.
		parities, _ := c.Encode(slices.Repeat([][]byte{row}, len(u.xs)))
		apart(t, "Encode", parities)
		shards := slices.Repeat([][]byte{row}, len(u.xs)+len(u.ys))
		whole, _ := c.Decode(shards)
		apart(t, "Decode", whole)
		whole, _ = c.Decode(without(shards, 1))
		apart(t, "Decode of one missing", whole)
		first, _ := c.Rebuild(shards, 0)
		second, _ := c.Rebuild(shards, 0)
		apart(t, "Rebuild, twice", [][]byte{first, second})
		if mix = 0; !bytes.Equal(row, mix.bytes(16)) {
			t.Fatal("an answer is what was handed in")
		}
	}
}

// Promise 4.2: Decode.

func TestDecodeOfAllThere(t *testing.T) {
	f := gf.New()
	var mix mixer
	for _, u := range rules() {
		c := made(t, u)
		for _, n := range []int{0, 1, 16, 64} {
			all := u.whole(f, mix.rows(len(u.xs), n))
			got, e := c.Decode(all)
			are(t, "Decode of all", got, e, all)
			// Those that are there stay as they are, whatever they say.
			all = mix.rows(len(u.xs)+len(u.ys), n)
			got, e = c.Decode(all)
			are(t, "Decode of mixed shards", got, e, all)
		}
	}
}

// said tells whether whole is what Decode is to tell of shards that do not fit together: those that are there as they are, the data as the first k say, missing parities as all data say.
func said(t *testing.T, f *gf.Field, u rule, shards, whole [][]byte) {
	t.Helper()
	k := len(u.xs)
	if len(whole) != len(shards) {
		t.Fatalf("%d shards, want %d", len(whole), len(shards))
	}
	first := 0
	for i, shard := range shards {
		if shard != nil {
			if !bytes.Equal(whole[i], shard) {
				t.Fatalf("shard %d, that was there, = %v, want %v", i, whole[i], shard)
			}
			first++
		}
		if i < k {
			continue
		}
		// A parity among the first k that are there has to be that of the data, which no other data would do; so has one that was missing.
		if shard == nil || first <= k {
			if want := u.parity(f, i-k, whole[:k]); !bytes.Equal(whole[i], want) {
				t.Fatalf("parity %d = %v, want %v (shard there: %v)", i-k, whole[i], want, shard != nil)
			}
		}
	}
}

func TestDecodeAsTheFirstSay(t *testing.T) {
	f := gf.New()
	var mix mixer
	for _, u := range rules() {
		c := made(t, u)
		k, r := len(u.xs), len(u.ys)
		for mask := range 1 << (k + r) {
			if bits.OnesCount(uint(mask)) > r {
				continue
			}
			shards := without(mix.rows(k+r, 3), mask)
			whole, e := c.Decode(shards)
			if e != api.OK {
				t.Fatalf("Decode without %b: %v", mask, e)
			}
			said(t, f, u, shards, whole)
		}
	}
}

// Data that are wrong in one place are told so: of shards that do not fit together nothing is guessed.
func TestDecodeExamples(t *testing.T) {
	// Coefs: 1 and Inv of 2 of the first parity, Inv of 2 and 1 of the second.
	c := made(t, rule{[]byte{0, 3}, []byte{1, 2}})
	for _, x := range []struct {
		name         string
		shards, want [][]byte
	}{
		{"both data", [][]byte{{2}, {2}, nil, nil}, [][]byte{{2}, {2}, {3}, {3}}},
		{"both data and a parity that is not theirs", [][]byte{{2}, {2}, {9}, nil}, [][]byte{{2}, {2}, {9}, {3}}},
		{"both data and the other parity", [][]byte{{2}, {2}, nil, {9}}, [][]byte{{2}, {2}, {3}, {9}}},
		{"all, and none fits", [][]byte{{2}, {2}, {9}, {8}}, [][]byte{{2}, {2}, {9}, {8}}},
		{"the first data and the first parity", [][]byte{{2}, nil, {3}, nil}, [][]byte{{2}, {2}, {3}, {3}}},
		{"the second data and the second parity", [][]byte{nil, {2}, nil, {3}}, [][]byte{{2}, {2}, {3}, {3}}},
		{"both parities", [][]byte{nil, nil, {3}, {3}}, [][]byte{{2}, {2}, {3}, {3}}},
		{"the first parity is ahead of the second", [][]byte{{2}, nil, {3}, {77}}, [][]byte{{2}, {2}, {3}, {77}}},
		{"and of the second data", [][]byte{nil, {2}, {3}, {77}}, [][]byte{{2}, {2}, {3}, {77}}},
	} {
		got, e := c.Decode(x.shards)
		are(t, x.name, got, e, x.want)
	}
}

// An empty shard is there; a nil one is missing.
func TestDecodeOfEmptyShards(t *testing.T) {
	c := made(t, rule{rising(0, 2), rising(14, 2)})
	want := shaped(0, 0, 0, 0)
	for _, shards := range [][][]byte{shaped(0, 0, 0, 0), shaped(-1, 0, 0, 0), shaped(0, 0, -1, -1), shaped(-1, -1, 0, 0), shaped(-1, 0, -1, 0)} {
		got, e := c.Decode(shards)
		are(t, "Decode of empty shards", got, e, want)
	}
	for _, shards := range [][][]byte{shaped(-1, -1, -1, 0), shaped(0, -1, -1, -1), shaped(-1, -1, -1, -1)} {
		if got, e := c.Decode(shards); len(got) != 0 || e != api.ErrLost {
			t.Errorf("Decode = %v, %v, want none, ErrLost", got, e)
		}
	}
}

// faults are lists that Decode refuses, of two data and two parities: lists that may not be, ahead of those of which too many are missing.
func faults() []struct {
	name   string
	shards [][]byte
	want   api.Errno
} {
	return []struct {
		name   string
		shards [][]byte
		want   api.Errno
	}{
		{"nil", nil, api.ErrArg},
		{"none", [][]byte{}, api.ErrArg},
		{"data alone", shaped(1, 1), api.ErrArg},
		{"one too few", shaped(1, 1, 1), api.ErrArg},
		{"one too many", shaped(1, 1, 1, 1, 1), api.ErrArg},
		{"one too many, missing", shaped(1, 1, 1, 1, -1), api.ErrArg},
		{"a great many", make([][]byte, 100000), api.ErrArg},
		{"three missing ones", shaped(-1, -1, -1), api.ErrArg},
		{"a long first", shaped(2, 1, 1, 1), api.ErrArg},
		{"a long second", shaped(1, 2, 1, 1), api.ErrArg},
		{"a long last", shaped(1, 1, 1, 2), api.ErrArg},
		{"an empty last", shaped(1, 1, 1, 0), api.ErrArg},
		{"an empty first", shaped(0, 1, 1, 1), api.ErrArg},
		{"unlike parities", shaped(-1, -1, 1, 2), api.ErrArg},
		{"an empty one and a missing one", shaped(-1, 0, 1, 1), api.ErrArg},
		{"65 bytes", shaped(65, 65, 65, 65), api.ErrArg},
		{"65 bytes in one", shaped(64, 64, 64, 65), api.ErrArg},
		{"65 bytes, two missing", shaped(-1, 65, 65, -1), api.ErrArg},
		{"a great many bytes", shaped(1<<20, 1<<20, 1<<20, 1<<20), api.ErrArg},
		{"unlike ones and two missing", shaped(1, -1, -1, 2), api.ErrArg},
		{"65 bytes and too many missing", shaped(-1, -1, 65, -1), api.ErrArg},
		{"three missing", shaped(1, -1, -1, -1), api.ErrLost},
		{"all missing but the last", shaped(-1, -1, -1, 64), api.ErrLost},
		{"all missing", shaped(-1, -1, -1, -1), api.ErrLost},
	}
}

func TestDecodeRefuses(t *testing.T) {
	c := made(t, rule{rising(0, 2), rising(14, 2)})
	for _, x := range faults() {
		if got, e := c.Decode(x.shards); len(got) != 0 || e != x.want {
			t.Errorf("Decode, %s = %v, %v, want none, %v", x.name, got, e, x.want)
		}
	}
	// Unlike ones among those of which too many are missing.
	if got, e := made(t, rule{rising(0, 3), rising(14, 1)}).Decode(shaped(1, -1, 2, -1)); len(got) != 0 || e != api.ErrArg {
		t.Errorf("Decode of unlike ones, too many missing = %v, %v, want none, ErrArg", got, e)
	}
}

func TestDecodeLeavesShardsAlone(t *testing.T) {
	u := rule{rising(0, 3), rising(14, 2)}
	c, f := made(t, u), gf.New()
	var mix mixer
	all := u.whole(f, mix.rows(3, 9))
	for mask := range 1 << 5 {
		if bits.OnesCount(uint(mask)) > 2 {
			continue
		}
		handed := roomy(without(all, mask))
		got, e := c.Decode(handed)
		are(t, "Decode", got, e, all)
		untouched(t, "Decode", handed, without(all, mask))
		are(t, "behind a change of what was handed in", got, e, all)
	}
}

// Promise 4.2: Check.

func TestCheckOfWholeOnes(t *testing.T) {
	f := gf.New()
	var mix mixer
	for _, u := range rules() {
		c := made(t, u)
		for _, n := range []int{0, 1, 5, 64} {
			if ok, e := c.Check(u.whole(f, mix.rows(len(u.xs), n))); !ok || e != api.OK {
				t.Errorf("Check of %d bytes = %v, %v, want true", n, ok, e)
			}
		}
	}
}

func TestCheckSeesEachBit(t *testing.T) {
	f := gf.New()
	var mix mixer
	for _, u := range rules() {
		c := made(t, u)
		all := u.whole(f, mix.rows(len(u.xs), 4))
		for i, shard := range all {
			for bit := range 8 * len(shard) {
				shard[bit/8] ^= 1 << (bit % 8)
				if ok, e := c.Check(all); ok || e != api.OK {
					t.Fatalf("Check with bit %d of shard %d turned = %v, %v, want false", bit, i, ok, e)
				}
				shard[bit/8] ^= 1 << (bit % 8)
			}
		}
	}
}

func TestCheckOfParitiesInAnotherOrder(t *testing.T) {
	c := made(t, rule{rising(0, 4), []byte{14, 15}})
	all := rule{rising(0, 4), []byte{14, 15}}.whole(gf.New(), [][]byte{{1}, {2}, {3}, {4}})
	all[4], all[5] = all[5], all[4]
	if ok, e := c.Check(all); ok || e != api.OK {
		t.Errorf("Check = %v, %v, want false", ok, e)
	}
}

func TestCheckRefuses(t *testing.T) {
	c := made(t, rule{rising(0, 2), rising(14, 2)})
	for _, x := range faults() {
		if ok, e := c.Check(x.shards); ok || e != x.want {
			t.Errorf("Check, %s = %v, %v, want false, %v", x.name, ok, e, x.want)
		}
	}
	for mask := 1; mask < 16; mask++ {
		for _, n := range []int{0, 1, 64} {
			if ok, e := c.Check(without(shaped(n, n, n, n), mask)); ok || e != api.ErrLost {
				t.Errorf("Check without %b = %v, %v, want false, ErrLost", mask, ok, e)
			}
		}
	}
}

func TestCheckLeavesShardsAlone(t *testing.T) {
	u := rule{rising(0, 3), rising(14, 2)}
	c := made(t, u)
	var mix mixer
	for _, all := range [][][]byte{u.whole(gf.New(), mix.rows(3, 9)), mix.rows(5, 9)} {
		handed := roomy(all)
		c.Check(handed)
		untouched(t, "Check", handed, all)
	}
}

// Promise 4.2: Rebuild.

func TestRebuildOfEach(t *testing.T) {
	f := gf.New()
	var mix mixer
	for _, u := range rules() {
		c := made(t, u)
		for _, n := range []int{0, 1, 16, 64} {
			all := u.whole(f, mix.rows(len(u.xs), n))
			for i := range all {
				// What is there in its place says nothing.
				for _, there := range [][]byte{all[i], mix.bytes(n), make([]byte, n), nil} {
					shards := slices.Clone(all)
					shards[i] = there
					got, e := c.Rebuild(shards, i)
					are(t, "Rebuild", [][]byte{got}, e, [][]byte{all[i]})
				}
			}
		}
	}
}

// As many as there are parities may be missing, the one that is asked for among them.
func TestRebuildOfEachWithOthersMissing(t *testing.T) {
	f := gf.New()
	var mix mixer
	for _, u := range []rule{{rising(4, 4), []byte{14, 15}}, {[]byte{200, 3, 77}, []byte{5, 0, 255, 128}}, {[]byte{0}, []byte{1}}} {
		c := made(t, u)
		all := u.whole(f, mix.rows(len(u.xs), 5))
		for mask := range 1 << len(all) {
			for i := range all {
				shards := without(all, mask)
				got, e := c.Rebuild(shards, i)
				if bits.OnesCount(uint(mask|1<<i)) > len(u.ys) {
					if got != nil || e != api.ErrLost {
						t.Fatalf("Rebuild of %d without %b = %v, %v, want none, ErrLost", i, mask, got, e)
					}
					continue
				}
				are(t, "Rebuild", [][]byte{got}, e, [][]byte{all[i]})
			}
		}
	}
}

// Of shards that do not fit together: as Decode tells it with that one missing.
func TestRebuildAsTheFirstSay(t *testing.T) {
	f := gf.New()
	var mix mixer
	for _, u := range rules() {
		c := made(t, u)
		shards := mix.rows(len(u.xs)+len(u.ys), 3)
		for i := range shards {
			rest := without(shards, 1<<i)
			whole, _ := c.Decode(rest)
			said(t, f, u, rest, whole)
			got, e := c.Rebuild(shards, i)
			are(t, "Rebuild", [][]byte{got}, e, [][]byte{whole[i]})
		}
	}
}

func TestRebuildRefuses(t *testing.T) {
	c := made(t, rule{rising(0, 2), rising(14, 2)})
	for _, x := range faults() {
		for i := range 4 {
			if got, e := c.Rebuild(x.shards, i); got != nil || e != x.want {
				t.Errorf("Rebuild of %d, %s = %v, %v, want none, %v", i, x.name, got, e, x.want)
			}
		}
	}
	for _, shards := range [][][]byte{shaped(1, 1, 1, 1), shaped(0, 0, 0, 0), shaped(-1, 1, 1, 1), shaped(-1, -1, -1, -1), shaped(2, 1, 1, 1), nil} {
		for _, i := range []int{-1, -4, 4, 5, 1 << 32, math.MaxInt, math.MinInt} {
			if got, e := c.Rebuild(shards, i); got != nil || e != api.ErrArg {
				t.Errorf("Rebuild of %d = %v, %v, want none, ErrArg", i, got, e)
			}
		}
	}
	// The one that is left out has to be of the others' length, too.
	for i := range 4 {
		for _, n := range []int{0, 2, 65} {
			shards := shaped(1, 1, 1, 1)
			shards[i] = make([]byte, n)
			if got, e := c.Rebuild(shards, i); got != nil || e != api.ErrArg {
				t.Errorf("Rebuild of %d, of %d bytes = %v, %v, want none, ErrArg", i, n, got, e)
			}
		}
	}
}

func TestRebuildLeavesShardsAlone(t *testing.T) {
	u := rule{rising(0, 3), rising(14, 2)}
	c := made(t, u)
	var mix mixer
	all := u.whole(gf.New(), mix.rows(3, 9))
	for i := range all {
		for _, shards := range [][][]byte{all, without(all, 1), without(all, 1<<i)} {
			handed := roomy(shards)
			got, e := c.Rebuild(handed, i)
			are(t, "Rebuild", [][]byte{got}, e, [][]byte{all[i]})
			untouched(t, "Rebuild", handed, shards)
			are(t, "behind a change of what was handed in", [][]byte{got}, e, [][]byte{all[i]})
		}
	}
}

// Promise 4.3 and W3: any k of them give all.

func TestAnyOfThemGiveAll(t *testing.T) {
	var mix mixer
	for _, u := range rules() {
		c := made(t, u)
		k, r := len(u.xs), len(u.ys)
		data := mix.rows(k, 4)
		parities, e := c.Encode(data)
		if e != api.OK {
			t.Fatalf("Encode: %v", e)
		}
		all := slices.Concat(data, parities)
		for mask := range 1 << (k + r) {
			lost := bits.OnesCount(uint(mask))
			if lost > r+1 {
				continue
			}
			got, e := c.Decode(without(all, mask))
			if lost > r {
				if len(got) != 0 || e != api.ErrLost {
					t.Fatalf("%d and %d: Decode without %b = %v, %v, want none, ErrLost", k, r, mask, got, e)
				}
				continue
			}
			are(t, "Decode", got, e, all)
		}
	}
}

// The wide layout keeps sixteen of eighteen: its last two data are noughts, and always there.
func TestAnyFourOfSixteenAreLost(t *testing.T) {
	c := made(t, rule{rising(0, 14), rising(14, 4)})
	var mix mixer
	data := append(mix.rows(12, 16), make([]byte, 16), make([]byte, 16))
	parities, e := c.Encode(data)
	if e != api.OK {
		t.Fatalf("Encode: %v", e)
	}
	all := slices.Concat(data, parities)
	for mask := range 1 << 18 {
		if bits.OnesCount(uint(mask)) == 4 && mask>>12&3 == 0 {
			got, e := c.Decode(without(all, mask))
			are(t, "Decode", got, e, all)
		}
	}
}

// W7: each byte in each place is read as it was.
func TestThereAndBackOfEachByte(t *testing.T) {
	c := made(t, rule{rising(8, 4), []byte{14, 15}})
	for i := range 4 {
		for x := range 256 {
			data := shaped(1, 1, 1, 1)
			data[i][0] = byte(x)
			parities, _ := c.Encode(data)
			all := slices.Concat(data, parities)
			for j := range all {
				got, e := c.Decode(without(all, 1<<i|1<<j))
				are(t, "Decode", got, e, all)
			}
		}
	}
}

// Rules: a Code is not changed by its calls, and one is no matter to another.

func TestSameAnswerEachTime(t *testing.T) {
	u, other := rule{rising(0, 4), []byte{14, 15}}, rule{rising(0, 4), []byte{15, 14}}
	f := gf.New()
	c, e := code.New(f, u.xs, u.ys)
	d, g := code.New(f, other.xs, other.ys)
	if e != api.OK || g != api.OK {
		t.Fatal(e, g)
	}
	var mix mixer
	data := mix.rows(4, 16)
	all := u.whole(f, data)
	for range 20 {
		d.Encode(mix.rows(4, 16))
		d.Decode(mix.rows(6, 3))
		c.Decode(without(mix.rows(6, 64), 3))
		c.Rebuild(mix.rows(6, 5), 2)
		c.Decode(nil)
		parities, e := c.Encode(data)
		are(t, "Encode", parities, e, all[4:])
		whole, e := c.Decode(without(all, 5))
		are(t, "Decode", whole, e, all)
		if ok, e := c.Check(all); !ok || e != api.OK {
			t.Fatalf("Check = %v, %v", ok, e)
		}
		if k, r := c.Size(); k != 4 || r != 2 {
			t.Fatalf("Size = %d, %d", k, r)
		}
	}
}

// Promise 4.4: every call ends and none panics.

func TestNoCallPanics(t *testing.T) {
	defer func() {
		if p := recover(); p != nil {
			t.Errorf("a call panicked: %v", p)
		}
	}()
	numbers := []int{math.MinInt, math.MinInt + 1, -1 << 32, -19, -1, 0, 1, 3, 5, 13, 17, 18, 1 << 32, math.MaxInt}
	lists := [][][]byte{nil, {}, {nil}, {{}}, {{1}}, make([][]byte, 6), make([][]byte, 18), make([][]byte, 5000), {nil, {1, 2}, {}, nil, {3}, make([]byte, 1<<16)}}
	for _, n := range []int{0, 1, 63, 64, 65, 1 << 16} {
		for count := range 20 {
			lists = append(lists, shaped(slices.Repeat([]int{n}, count)...))
		}
	}
	for _, f := range []*gf.Field{nil, gf.New()} {
		for _, xs := range [][]byte{nil, {}, {0}, rising(0, 4), rising(0, 14), rising(250, 14), rising(0, 256), make([]byte, 1<<16)} {
			for _, ys := range [][]byte{nil, {}, {255}, {14, 15}, rising(14, 4), rising(0, 256), make([]byte, 1<<16)} {
				c, e := code.New(f, xs, ys)
				if (c == nil) != (e != api.OK) {
					t.Fatalf("New: a Code %v, %v", c != nil, e)
				}
				if c != nil {
					ask(c, lists, numbers)
				}
			}
		}
	}
}

// ask calls all that there is with all of these.
func ask(c *code.Code, lists [][][]byte, numbers []int) {
	c.Size()
	for _, l := range lists {
		c.Encode(l)
		c.Decode(l)
		c.Check(l)
		for _, i := range numbers {
			c.Rebuild(l, i)
		}
	}
	for _, j := range numbers {
		for _, i := range numbers {
			c.Coef(j, i)
		}
	}
}
