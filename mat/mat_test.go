package mat_test

import (
	"bytes"
	"math"
	"slices"
	"testing"

	"hypocaust/api"
	"hypocaust/gf"
	"hypocaust/mat"
)

// product multiplies as polynomials are multiplied, without a Field.
func product(a, b byte) byte {
	p, shifted := byte(0), int(a)
	for ; b > 0; b >>= 1 {
		if b&1 == 1 {
			p ^= byte(shifted)
		}
		if shifted <<= 1; shifted > 255 {
			shifted ^= 0x11d
		}
	}
	return p
}

// inverse looks for what makes 1 of a.
func inverse(a byte) byte {
	for b := range 256 {
		if product(a, byte(b)) == 1 {
			return byte(b)
		}
	}
	return 0
}

// multiplied tells a (rows by inner) times b (inner by cols) as the sum of products, without a Matrix.
func multiplied(a, b []byte, rows, inner, cols int) []byte {
	c := make([]byte, rows*cols)
	for i := range rows {
		for j := range cols {
			for k := range inner {
				c[i*cols+j] ^= product(a[i*inner+k], b[k*cols+j])
			}
		}
	}
	return c
}

// without tells n by n cells but one row and one column of them.
func without(cells []byte, n, row, col int) []byte {
	var rest []byte
	for i := range n {
		for j := range n {
			if i != row && j != col {
				rest = append(rest, cells[i*n+j])
			}
		}
	}
	return rest
}

// determinant is reckoned along the first row: a sum has no signs here. It is not 0 just where there is an inverse.
func determinant(cells []byte, n int) byte {
	if n == 0 {
		return 1
	}
	var d byte
	for j := range n {
		if cells[j] != 0 {
			d ^= product(cells[j], determinant(without(cells, n, 0, j), n-1))
		}
	}
	return d
}

// byMinors tells the inverse as determinants say it: no elimination.
func byMinors(cells []byte, n int) []byte {
	scale := inverse(determinant(cells, n))
	inverted := make([]byte, n*n)
	for i := range n {
		for j := range n {
			inverted[j*n+i] = product(scale, determinant(without(cells, n, i, j), n-1))
		}
	}
	return inverted
}

// mixer tells bytes that look mixed, the same ones each time.
type mixer uint64

func (m *mixer) bytes(n int) []byte {
	b := make([]byte, n)
	for i := range b {
		*m = *m*6364136223846793005 + 1442695040888963407
		b[i] = byte(*m >> 40)
	}
	return b
}

// mixedCells tells n mixed bytes.
func mixedCells(n int) []byte {
	mix := mixer(11)
	return mix.bytes(n)
}

// unitCells tells what the cells of Unit are.
func unitCells(n int) []byte {
	cells := make([]byte, n*n)
	for i := range n {
		cells[i*n+i] = 1
	}
	return cells
}

// made makes a Matrix that may be.
func made(t *testing.T, rows, cols int, cells []byte) *mat.Matrix {
	t.Helper()
	m, e := mat.New(gf.New(), rows, cols, cells)
	if m == nil || e != api.OK {
		t.Fatalf("New of %d by %d: %v", rows, cols, e)
	}
	return m
}

// is tells whether m is there, of that size and of those cells, however they are asked for.
func is(t *testing.T, name string, m *mat.Matrix, e api.Errno, rows, cols int, cells []byte) {
	t.Helper()
	if m == nil || e != api.OK {
		t.Fatalf("%s: a Matrix %v, %v", name, m != nil, e)
	}
	if r, c := m.Size(); r != rows || c != cols {
		t.Fatalf("%s: Size = %d, %d, want %d, %d", name, r, c, rows, cols)
	}
	if got := m.Cells(); !bytes.Equal(got, cells) {
		t.Fatalf("%s: Cells = %v, want %v", name, got, cells)
	}
	for i := range rows {
		for j := range cols {
			if got := m.At(i, j); got != cells[i*cols+j] {
				t.Fatalf("%s: At(%d, %d) = %d, want %d", name, i, j, got, cells[i*cols+j])
			}
		}
	}
}

// refused tells whether there is that error and nothing beside it.
func refused(t *testing.T, name string, m *mat.Matrix, e, want api.Errno) {
	t.Helper()
	if m != nil || e != want {
		t.Errorf("%s: a Matrix %v, %v, want none, %v", name, m != nil, e, want)
	}
}

// Promise 2.1: New, Size, At, Cells.

func TestNewOfAllSizes(t *testing.T) {
	var mix mixer
	for rows := 1; rows <= 32; rows++ {
		for cols := 1; cols <= 32; cols++ {
			cells := mix.bytes(rows * cols)
			m, e := mat.New(gf.New(), rows, cols, cells)
			is(t, "New", m, e, rows, cols, cells)
		}
	}
}

func TestNewRefuses(t *testing.T) {
	f := gf.New()
	for _, c := range []struct {
		name       string
		f          *gf.Field
		rows, cols int
		cells      int
	}{
		{"no Field", nil, 2, 2, 4},
		{"no rows", f, 0, 3, 0},
		{"no columns", f, 3, 0, 0},
		{"nothing", f, 0, 0, 0},
		{"rows below 0", f, -1, 1, 1},
		{"columns below 0", f, 1, -1, 1},
		{"both below 0", f, -2, -2, 4},
		{"33 rows", f, 33, 1, 33},
		{"33 columns", f, 1, 33, 33},
		{"33 of both", f, 33, 33, 1089},
		{"no cells", f, 1, 1, 0},
		{"one cell too few", f, 3, 4, 11},
		{"one cell too many", f, 3, 4, 13},
		{"1025 cells", f, 32, 32, 1025},
		{"a size that wraps round to 0", f, 1 << 32, 1 << 32, 0},
		{"a size that wraps round to 1", f, math.MaxInt, math.MaxInt, 1},
		{"sizes far below 0", f, math.MinInt, math.MinInt, 0},
	} {
		m, e := mat.New(c.f, c.rows, c.cols, make([]byte, c.cells))
		refused(t, c.name, m, e, api.ErrArg)
	}
	m, e := mat.New(f, 1, 1, nil)
	refused(t, "nil cells", m, e, api.ErrArg)
}

func TestNewKeepsNoCells(t *testing.T) {
	room := []byte{1, 2, 3, 4, 5, 6, 7, 8}
	m := made(t, 2, 3, room[:6])
	if !bytes.Equal(room, []byte{1, 2, 3, 4, 5, 6, 7, 8}) {
		t.Errorf("New changed what it was handed: %v", room)
	}
	clear(room)
	is(t, "behind a change of what was handed in", m, api.OK, 2, 3, []byte{1, 2, 3, 4, 5, 6})
}

func TestCellsAreNewMemory(t *testing.T) {
	m := made(t, 2, 2, []byte{1, 2, 3, 4})
	first, second := m.Cells(), m.Cells()
	clear(first[:cap(first)])
	if !bytes.Equal(second, []byte{1, 2, 3, 4}) {
		t.Errorf("two answers share memory: %v", second)
	}
	is(t, "behind a change of Cells", m, api.OK, 2, 2, []byte{1, 2, 3, 4})
}

func TestAtOfNone(t *testing.T) {
	m := made(t, 2, 3, []byte{1, 2, 3, 4, 5, 6})
	for _, c := range [][2]int{{-1, 0}, {0, -1}, {-1, -1}, {2, 0}, {0, 3}, {1, 3}, {2, 2}, {1, -1}, {0, 5}, {2, 3}, {math.MaxInt, 0}, {0, math.MaxInt}, {math.MinInt, 0}, {0, math.MinInt}, {1, math.MinInt}, {math.MaxInt, math.MaxInt}, {1 << 62, 2}} {
		if got := m.At(c[0], c[1]); got != 0 {
			t.Errorf("At(%d, %d) = %d, want 0", c[0], c[1], got)
		}
	}
}

// Promise 2.1: Mul.

func TestMulExample(t *testing.T) {
	m := made(t, 2, 3, []byte{1, 2, 0, 0, 1, 128})
	o := made(t, 3, 2, []byte{5, 0, 128, 1, 2, 7})
	p, e := m.Mul(o)
	is(t, "Mul", p, e, 2, 2, []byte{5 ^ 29, 2, 128 ^ 29, 1 ^ product(128, 7)})
}

func TestMulOfManySizes(t *testing.T) {
	var mix mixer
	sizes := []int{1, 2, 3, 7, 16, 31, 32}
	for _, rows := range sizes {
		for _, inner := range sizes {
			for _, cols := range sizes {
				a, b := mix.bytes(rows*inner), mix.bytes(inner*cols)
				m, o := made(t, rows, inner, a), made(t, inner, cols, b)
				p, e := m.Mul(o)
				is(t, "Mul", p, e, rows, cols, multiplied(a, b, rows, inner, cols))
				is(t, "the left one behind Mul", m, api.OK, rows, inner, a)
				is(t, "the right one behind Mul", o, api.OK, inner, cols, b)
			}
		}
	}
}

func TestMulWithItself(t *testing.T) {
	cells := []byte{1, 2, 3, 4}
	m := made(t, 2, 2, cells)
	p, e := m.Mul(m)
	is(t, "Mul with itself", p, e, 2, 2, multiplied(cells, cells, 2, 2, 2))
	is(t, "behind Mul with itself", m, api.OK, 2, 2, cells)
}

func TestMulRefuses(t *testing.T) {
	m := made(t, 2, 3, make([]byte, 6))
	p, e := m.Mul(nil)
	refused(t, "Mul(nil)", p, e, api.ErrArg)
	for _, size := range [][2]int{{2, 3}, {2, 2}, {4, 3}, {1, 3}, {32, 1}, {1, 1}} {
		p, e := m.Mul(made(t, size[0], size[1], make([]byte, size[0]*size[1])))
		refused(t, "Mul of unlike sizes", p, e, api.ErrArg)
	}
}

// Promise 2.1: Times.

func TestTimes(t *testing.T) {
	var mix mixer
	for rows := 1; rows <= 32; rows++ {
		for _, cols := range []int{1, 2, 5, 31, 32} {
			a, v := mix.bytes(rows*cols), mix.bytes(cols)
			m := made(t, rows, cols, a)
			got, e := m.Times(v)
			if want := multiplied(a, v, rows, cols, 1); e != api.OK || !bytes.Equal(got, want) {
				t.Fatalf("%d by %d: Times = %v, %v, want %v", rows, cols, got, e, want)
			}
			is(t, "behind Times", m, api.OK, rows, cols, a)
		}
	}
}

func TestTimesRefuses(t *testing.T) {
	m := made(t, 4, 3, mixedCells(12))
	for _, v := range [][]byte{nil, {}, {1}, {1, 2}, {1, 2, 3, 4}, make([]byte, 33), make([]byte, 12)} {
		if got, e := m.Times(v); len(got) != 0 || e != api.ErrArg {
			t.Errorf("Times of %d bytes = %v, %v, want none, ErrArg", len(v), got, e)
		}
	}
}

func TestTimesLeavesItsArgumentAlone(t *testing.T) {
	m := made(t, 2, 2, []byte{1, 2, 3, 4})
	room := []byte{5, 6, 7, 8}
	first, _ := m.Times(room[:2])
	want := multiplied([]byte{1, 2, 3, 4}, []byte{5, 6}, 2, 2, 1)
	if !bytes.Equal(room, []byte{5, 6, 7, 8}) {
		t.Errorf("Times changed what it was handed: %v", room)
	}
	clear(room)
	second, _ := m.Times([]byte{5, 6})
	if !bytes.Equal(first, want) || !bytes.Equal(second, want) {
		t.Errorf("Times = %v, then %v, want %v", first, second, want)
	}
	clear(first[:cap(first)])
	if !bytes.Equal(second, want) {
		t.Errorf("two answers share memory: %v", second)
	}
	is(t, "behind a change of what Times told", m, api.OK, 2, 2, []byte{1, 2, 3, 4})
}

// Promise 2.1: Pick.

func TestPick(t *testing.T) {
	cells := mixedCells(4 * 3)
	m := made(t, 4, 3, cells)
	all32 := make([]int, 32)
	for i := range all32 {
		all32[i] = i * 3 % 4
	}
	for _, rows := range [][]int{{0}, {3}, {0, 1, 2, 3}, {3, 2, 1, 0}, {2, 0}, {1, 1, 1}, {0, 3, 0, 3, 0, 3}, all32} {
		var want []byte
		for _, i := range rows {
			want = append(want, cells[i*3:i*3+3]...)
		}
		p, e := m.Pick(rows...)
		is(t, "Pick", p, e, len(rows), 3, want)
	}
	is(t, "behind Pick", m, api.OK, 4, 3, cells)
}

func TestPickRefuses(t *testing.T) {
	m := made(t, 4, 3, mixedCells(12))
	p, e := m.Pick()
	refused(t, "Pick()", p, e, api.ErrArg)
	for _, rows := range [][]int{nil, {}, {4}, {-1}, {0, 1, 4}, {-1, 0}, {0, -1, 2}, {math.MaxInt}, {math.MinInt}, {1 << 32}, {1 << 62}, make([]int, 33), make([]int, 5000)} {
		p, e := m.Pick(rows...)
		refused(t, "Pick of what may not be", p, e, api.ErrArg)
	}
	small := made(t, 1, 32, mixedCells(32))
	p, e = small.Pick(1)
	refused(t, "Pick of a row that only a column is", p, e, api.ErrArg)
}

func TestPickKeepsNoList(t *testing.T) {
	m := made(t, 3, 1, []byte{7, 8, 9})
	rows := []int{2, 0, 1, 1}
	p, e := m.Pick(rows[:2]...)
	if !slices.Equal(rows, []int{2, 0, 1, 1}) {
		t.Errorf("Pick changed what it was handed: %v", rows)
	}
	clear(rows)
	is(t, "Pick", p, e, 2, 1, []byte{9, 7})
}

// Promise 2.1: Unit.

func TestUnit(t *testing.T) {
	var mix mixer
	for n := 1; n <= 32; n++ {
		u, e := mat.Unit(gf.New(), n)
		is(t, "Unit", u, e, n, n, unitCells(n))
		v := mix.bytes(n)
		if got, e := u.Times(v); e != api.OK || !bytes.Equal(got, v) {
			t.Fatalf("Unit of %d, Times(%v) = %v, %v", n, v, got, e)
		}
	}
}

func TestUnitRefuses(t *testing.T) {
	for _, n := range []int{0, -1, -2, 33, 34, 1 << 16, 1 << 31, 1 << 32, math.MaxInt, math.MinInt} {
		u, e := mat.Unit(gf.New(), n)
		refused(t, "Unit of what may not be", u, e, api.ErrArg)
	}
	u, e := mat.Unit(nil, 2)
	refused(t, "Unit of no Field", u, e, api.ErrArg)
}

// Promise 2.1: Invert.

func TestInvertExamples(t *testing.T) {
	for _, c := range []struct {
		n           int
		cells, want []byte
	}{
		{1, []byte{2}, []byte{142}},
		{1, []byte{1}, []byte{1}},
		{1, []byte{142}, []byte{2}},
		{2, []byte{1, 0, 0, 1}, []byte{1, 0, 0, 1}},
		{2, []byte{0, 1, 1, 0}, []byte{0, 1, 1, 0}},
		{2, []byte{1, 2, 0, 1}, []byte{1, 2, 0, 1}},
		{2, []byte{0, 2, 1, 0}, []byte{0, 1, 142, 0}},
		{3, []byte{0, 0, 1, 0, 2, 0, 3, 0, 0}, []byte{0, 0, 244, 0, 142, 0, 1, 0, 0}},
		{3, []byte{0, 1, 0, 0, 0, 1, 1, 0, 0}, []byte{0, 0, 1, 1, 0, 0, 0, 1, 0}},
	} {
		m := made(t, c.n, c.n, c.cells)
		x, e := m.Invert()
		is(t, "Invert", x, e, c.n, c.n, c.want)
	}
}

func TestInvertOfEachByte(t *testing.T) {
	for a := 1; a < 256; a++ {
		x, e := made(t, 1, 1, []byte{byte(a)}).Invert()
		is(t, "Invert", x, e, 1, 1, []byte{inverse(byte(a))})
	}
	x, e := made(t, 1, 1, []byte{0}).Invert()
	refused(t, "Invert of 0", x, e, api.ErrSingular)
}

// Sparse cells and cells of few kinds have many a nought where a pivot is looked for, and often no inverse.
func TestInvertAsMinorsSay(t *testing.T) {
	var mix mixer
	inverted, singular := 0, 0
	for round := range 1500 {
		n := round%5 + 1
		cells := mix.bytes(n * n)
		masks := []byte{255, 1, 3, 17, 128}
		for i := range cells {
			cells[i] &= masks[round/5%len(masks)]
		}
		m := made(t, n, n, cells)
		x, e := m.Invert()
		if determinant(cells, n) == 0 {
			singular++
			refused(t, "Invert of what has none", x, e, api.ErrSingular)
		} else {
			inverted++
			is(t, "Invert", x, e, n, n, byMinors(cells, n))
		}
		is(t, "behind Invert", m, api.OK, n, n, cells)
	}
	if inverted < 100 || singular < 100 {
		t.Errorf("%d inverted, %d without an inverse: too few to tell", inverted, singular)
	}
}

func TestInvertRefusesWhatIsNotSquare(t *testing.T) {
	for rows := 1; rows <= 32; rows++ {
		for cols := 1; cols <= 32; cols++ {
			if rows == cols {
				continue
			}
			for _, cells := range [][]byte{make([]byte, rows*cols), mixedCells(rows * cols)} {
				x, e := made(t, rows, cols, cells).Invert()
				refused(t, "Invert of what is not square", x, e, api.ErrArg)
			}
		}
	}
}

// Each of these has no inverse for a reason of its own, of which the last is seen only at the last column.
func TestInvertRefusesWhatHasNone(t *testing.T) {
	for n := 2; n <= 32; n++ {
		for kind := range 5 {
			cells := mixedCells(n * n)
			last, first := cells[(n-1)*n:], cells[:n]
			switch kind {
			case 0: // all noughts
				clear(cells)
			case 1: // a row of noughts
				clear(last)
			case 2: // a column of noughts
				for i := range n {
					cells[i*n] = 0
				}
			case 3: // a row twice
				copy(last, first)
			case 4: // the last row is the sum of the others, each times its number
				clear(last)
				for i := range n - 1 {
					for j := range n {
						last[j] ^= product(byte(i+1), cells[i*n+j])
					}
				}
			}
			x, e := made(t, n, n, cells).Invert()
			refused(t, "Invert of what has none", x, e, api.ErrSingular)
		}
	}
}

// Promise 2.2, W3: an inverse undoes.

// undoes tells whether x undoes m: from both sides, and what m made of a row of bytes.
func undoes(t *testing.T, m, x *mat.Matrix) {
	t.Helper()
	n, _ := m.Size()
	p, e := m.Mul(x)
	is(t, "m times its inverse", p, e, n, n, unitCells(n))
	p, e = x.Mul(m)
	is(t, "the inverse times m", p, e, n, n, unitCells(n))
	v := mixedCells(n)
	there, _ := m.Times(v)
	if back, e := x.Times(there); e != api.OK || !bytes.Equal(back, v) {
		t.Fatalf("%v, Times, Times of the inverse = %v, %v", v, back, e)
	}
}

func TestInverseUndoesFromBothSides(t *testing.T) {
	var mix mixer
	done := 0
	for round := range 12 * 32 {
		n := round%32 + 1
		cells := mix.bytes(n * n)
		m := made(t, n, n, cells)
		x, e := m.Invert()
		if e == api.ErrSingular {
			continue
		}
		done++
		if x == nil || e != api.OK {
			t.Fatalf("Invert of %d by %d: %v", n, n, e)
		}
		undoes(t, m, x)
		back, e := x.Invert()
		is(t, "Invert, and Invert", back, e, n, n, cells)
	}
	// One in some 250 has no inverse, if its cells are mixed.
	if done < 12*32-12 {
		t.Errorf("only %d of %d were inverted", done, 12*32)
	}
}

// A Matrix that has 1 once in each row and column needs a swap of rows at nearly each column.
func TestInverseOfOrdersUndoes(t *testing.T) {
	for n := 1; n <= 32; n++ {
		for _, step := range []int{1, 3, 5, 7, 11, 13} {
			if n%step == 0 && step > 1 {
				continue
			}
			order := make([]int, n)
			for i := range order {
				order[i] = (i*step + n/2) % n
			}
			u, _ := mat.Unit(gf.New(), n)
			m, _ := u.Pick(order...)
			x, e := m.Invert()
			if x == nil || e != api.OK {
				t.Fatalf("Invert of the order %v: %v", order, e)
			}
			undoes(t, m, x)
		}
	}
}

// beside tells the cells of Unit of k and r rows below, row j of them the inverses of the sums of (k+j) and each column's number: any k rows of these undo.
func beside(k, r int) []byte {
	cells := unitCells(k)
	for j := range r {
		for i := range k {
			cells = append(cells, inverse(byte(k+j)^byte(i)))
		}
	}
	return cells
}

// choices tells each way to take k of n, rising.
func choices(n, k int) [][]int {
	if k == 0 {
		return [][]int{nil}
	}
	if n < k {
		return nil
	}
	all := choices(n-1, k)
	for _, c := range choices(n-1, k-1) {
		all = append(all, append(slices.Clone(c), n-1))
	}
	return all
}

func TestAnyRowsThatAreLeftGiveAll(t *testing.T) {
	for _, c := range []struct{ k, r, ways int }{{1, 2, 3}, {4, 2, 15}, {14, 4, 3060}} {
		all := made(t, c.k+c.r, c.k, beside(c.k, c.r))
		data := mixedCells(c.k)
		kept, _ := all.Times(data)
		ways := choices(c.k+c.r, c.k)
		if len(ways) != c.ways {
			t.Fatalf("%d ways, want %d", len(ways), c.ways)
		}
		for _, rows := range ways {
			m, _ := all.Pick(rows...)
			x, e := m.Invert()
			if e != api.OK {
				t.Fatalf("rows %v of %d and %d: %v", rows, c.k, c.r, e)
			}
			var left []byte
			for _, i := range rows {
				left = append(left, kept[i])
			}
			if back, e := x.Times(left); e != api.OK || !bytes.Equal(back, data) {
				t.Fatalf("rows %v of %d and %d: %v, %v, want %v", rows, c.k, c.r, back, e, data)
			}
		}
	}
}

// Promise 2.3: no call panics, and all end.

// asked asks m all that can be asked of one, and answers the Matrices that were told.
func asked(m *mat.Matrix, numbers []int, others []*mat.Matrix) []*mat.Matrix {
	m.Size()
	m.Cells()
	told := []*mat.Matrix{}
	keep := func(x *mat.Matrix, e api.Errno) {
		if e == api.OK {
			told = append(told, x)
		}
	}
	for _, i := range numbers {
		for _, j := range numbers {
			m.At(i, j)
			keep(m.Pick(i, j))
		}
		keep(m.Pick(i))
	}
	for _, o := range others {
		keep(m.Mul(o))
	}
	for _, n := range []int{0, 1, 2, 31, 32, 33, 1000} {
		m.Times(make([]byte, n))
		keep(m.Pick(make([]int, n)...))
	}
	keep(m.Pick(numbers...))
	keep(m.Invert())
	return told
}

func TestNoCallPanics(t *testing.T) {
	defer func() {
		if p := recover(); p != nil {
			t.Errorf("a call panicked: %v", p)
		}
	}()
	numbers := []int{0, 1, 2, -1, 31, 32, 33, 1 << 31, 1 << 32, math.MaxInt, math.MinInt, math.MinInt + 1}
	cells := [][]byte{nil, {}, {0}, {255}, mixedCells(2), make([]byte, 4), mixedCells(32), mixedCells(1024), mixedCells(1025)}
	all := []*mat.Matrix{nil}
	for _, f := range []*gf.Field{nil, gf.New()} {
		for _, rows := range numbers {
			mat.Unit(f, rows)
			for _, cols := range numbers {
				for _, c := range cells {
					if m, e := mat.New(f, rows, cols, c); e == api.OK {
						all = append(all, m)
					}
				}
			}
		}
	}
	for _, m := range all[1:] {
		for _, told := range asked(m, numbers, all) {
			asked(told, numbers[:3], all[:4])
		}
	}
}
