package gf_test

import (
	"bytes"
	"math"
	"reflect"
	"sync"
	"testing"

	"hypocaust/gf"
)

// product multiplies as polynomials are multiplied, and takes the remainder last: no table, no logarithm.
func product(a, b byte) byte {
	p := 0
	for i := range 8 {
		if b>>i&1 == 1 {
			p ^= int(a) << i
		}
	}
	for i := 14; i >= 8; i-- {
		if p>>i&1 == 1 {
			p ^= 0x11d << (i - 8)
		}
	}
	return byte(p)
}

// inverses looks for each byte's inverse among all bytes; that of 0 stays 0.
func inverses() [256]byte {
	var all [256]byte
	for a := range 256 {
		for b := range 256 {
			if product(byte(a), byte(b)) == 1 {
				all[a] = byte(b)
			}
		}
	}
	return all
}

// Promise 1.1: Mul.

func TestMulExamples(t *testing.T) {
	f := gf.New()
	for _, c := range []struct{ a, b, want byte }{
		{2, 128, 29}, {128, 2, 29}, {3, 3, 5}, {1, 255, 255}, {255, 1, 255}, {0, 0, 0}, {0, 255, 0}, {255, 0, 0}, {16, 16, 29}, {2, 142, 1},
	} {
		if got := f.Mul(c.a, c.b); got != c.want {
			t.Errorf("Mul(%d, %d) = %d, want %d", c.a, c.b, got, c.want)
		}
	}
}

func TestMulOfAllPairs(t *testing.T) {
	f := gf.New()
	for a := range 256 {
		for b := range 256 {
			if got, want := f.Mul(byte(a), byte(b)), product(byte(a), byte(b)); got != want {
				t.Fatalf("Mul(%d, %d) = %d, want %d", a, b, got, want)
			}
		}
	}
}

// Each call must do as the very first of a Field, too, when no other has made its tables.
func TestFirstCalls(t *testing.T) {
	if got := gf.New().Mul(2, 128); got != 29 {
		t.Errorf("Mul(2, 128) = %d", got)
	}
	if got, ok := gf.New().Inv(2); got != 142 || !ok {
		t.Errorf("Inv(2) = %d, %v", got, ok)
	}
	if got, ok := gf.New().Div(29, 128); got != 2 || !ok {
		t.Errorf("Div(29, 128) = %d, %v", got, ok)
	}
	if got := gf.New().Pow(2, 8); got != 29 {
		t.Errorf("Pow(2, 8) = %d", got)
	}
	if got := gf.New().Pow(2, -1); got != 142 {
		t.Errorf("Pow(2, -1) = %d", got)
	}
	if got := gf.New().Dot([]byte{2}, []byte{128}); got != 29 {
		t.Errorf("Dot(2, 128) = %d", got)
	}
}

// Promise 1.1: Inv and Div.

func TestInv(t *testing.T) {
	f := gf.New()
	if got, ok := f.Inv(0); got != 0 || ok {
		t.Errorf("Inv(0) = %d, %v, want 0, false", got, ok)
	}
	want := inverses()
	for a := 1; a < 256; a++ {
		if got, ok := f.Inv(byte(a)); got != want[a] || !ok {
			t.Fatalf("Inv(%d) = %d, %v, want %d, true", a, got, ok, want[a])
		}
	}
	if got, ok := f.Inv(0); got != 0 || ok {
		t.Errorf("Inv(0) behind others = %d, %v, want 0, false", got, ok)
	}
}

func TestDiv(t *testing.T) {
	f := gf.New()
	inverse := inverses()
	for a := range 256 {
		if got, ok := f.Div(byte(a), 0); got != 0 || ok {
			t.Fatalf("Div(%d, 0) = %d, %v, want 0, false", a, got, ok)
		}
		for b := 1; b < 256; b++ {
			if got, ok := f.Div(byte(a), byte(b)); got != product(byte(a), inverse[b]) || !ok {
				t.Fatalf("Div(%d, %d) = %d, %v", a, b, got, ok)
			}
		}
	}
}

// Promise 1.1: Pow.

func TestPowUpAndDown(t *testing.T) {
	f := gf.New()
	inverse := inverses()
	for a := range 256 {
		up, down := byte(1), byte(1)
		for n := range 600 {
			if got := f.Pow(byte(a), n); got != up {
				t.Fatalf("Pow(%d, %d) = %d, want %d", a, n, got, up)
			}
			if got := f.Pow(byte(a), -n); got != down {
				t.Fatalf("Pow(%d, %d) = %d, want %d", a, -n, got, down)
			}
			up, down = product(up, byte(a)), product(down, inverse[a])
		}
	}
}

func TestPowOfNought(t *testing.T) {
	f := gf.New()
	if got := f.Pow(0, 0); got != 1 {
		t.Errorf("Pow(0, 0) = %d, want 1", got)
	}
	for _, n := range []int{1, 2, 254, 255, 256, 510, math.MaxInt, -1, -2, -254, -255, -256, -510, math.MinInt} {
		if got := f.Pow(0, n); got != 0 {
			t.Errorf("Pow(0, %d) = %d, want 0", n, got)
		}
	}
}

// square tells a to the n, n at least 0, by squaring.
func square(a byte, n uint64) byte {
	p := byte(1)
	for ; n > 0; n >>= 1 {
		if n&1 == 1 {
			p = product(p, a)
		}
		a = product(a, a)
	}
	return p
}

func TestPowOfGreatNumbers(t *testing.T) {
	f := gf.New()
	inverse := inverses()
	for _, n := range []int64{math.MaxInt64, math.MaxInt64 - 1, math.MaxInt64 / 2, math.MaxInt64 / 255, 1 << 62, 1<<53 + 1, math.MaxUint32, math.MaxInt32, 65536, 65535} {
		for a := 1; a < 256; a++ {
			if got, want := f.Pow(byte(a), int(n)), square(byte(a), uint64(n)); got != want {
				t.Fatalf("Pow(%d, %d) = %d, want %d", a, n, got, want)
			}
			if got, want := f.Pow(byte(a), int(-n)), square(inverse[a], uint64(n)); got != want {
				t.Fatalf("Pow(%d, %d) = %d, want %d", a, -n, got, want)
			}
		}
	}
	for a := 1; a < 256; a++ {
		if got, want := f.Pow(byte(a), math.MinInt64), square(inverse[a], 1<<63); got != want {
			t.Fatalf("Pow(%d, %d) = %d, want %d", a, math.MinInt64, got, want)
		}
	}
}

// Promise 1.1: Dot.

func TestDotExamples(t *testing.T) {
	f := gf.New()
	for _, c := range []struct {
		a, b []byte
		want byte
	}{
		{nil, nil, 0},
		{nil, []byte{1, 2}, 0},
		{[]byte{1, 2}, []byte{}, 0},
		{[]byte{7}, []byte{1}, 7},
		{[]byte{2, 5}, []byte{128, 1}, 29 ^ 5},
		{[]byte{2, 5, 9}, []byte{128}, 29},
		{[]byte{128}, []byte{2, 5, 9}, 29},
		{[]byte{0, 0, 3}, []byte{9, 9, 3, 9}, 5},
		{[]byte{7, 7}, []byte{11, 11}, 0},
		{[]byte{0, 4}, []byte{4, 0}, 0},
	} {
		if got := f.Dot(c.a, c.b); got != c.want {
			t.Errorf("Dot(%v, %v) = %d, want %d", c.a, c.b, got, c.want)
		}
	}
}

// row makes n bytes that look mixed, unlike ones of each start.
func row(start, n int) []byte {
	b := make([]byte, n)
	for i := range b {
		b[i] = byte(i*i*3 + i*start + start)
	}
	return b
}

func TestDotOfRowsOfUnlikeLength(t *testing.T) {
	f := gf.New()
	for m := range 40 {
		for n := range 40 {
			a, b := row(5, m), row(77, n)
			var want byte
			for i := 0; i < m && i < n; i++ {
				want ^= product(a[i], b[i])
			}
			if got := f.Dot(a, b); got != want {
				t.Fatalf("Dot of %d and %d bytes = %d, want %d", m, n, got, want)
			}
		}
	}
}

func TestDotOfLongRows(t *testing.T) {
	f := gf.New()
	a, b := row(9, 3000), row(31, 2999)
	var want byte
	for i := range b {
		want ^= product(a[i], b[i])
	}
	if got := f.Dot(a, b); got != want {
		t.Errorf("Dot = %d, want %d", got, want)
	}
}

// What lies behind a row belongs to another: Dot neither reads nor changes it, nor the rows.
func TestDotLeavesRowsAlone(t *testing.T) {
	f := gf.New()
	a, b := row(3, 20), row(4, 20)
	first := f.Dot(a[:5], b[:9])
	if !bytes.Equal(a, row(3, 20)) || !bytes.Equal(b, row(4, 20)) {
		t.Error("Dot changed what it was handed")
	}
	clear(a[5:])
	clear(b[5:])
	if got := f.Dot(a[:5], b[:9]); got != first {
		t.Errorf("Dot = %d, then %d, with other bytes behind its rows", first, got)
	}
}

// Promise 1.2: tables are made once.

// tables tells how often a Field made its tables, as its memory shows: it is unlike a new one's behind the making (one that keeps none never is).
func tables(f *gf.Field) int {
	if reflect.DeepEqual(f, gf.New()) {
		return 0
	}
	return 1
}

// call asks a Field something that is no matter of 0.
type call struct {
	name string
	ask  func(*gf.Field)
}

// calls are one of each kind.
func calls() []call {
	return []call{
		{"Mul", func(f *gf.Field) { f.Mul(3, 7) }},
		{"Inv", func(f *gf.Field) { f.Inv(9) }},
		{"Div", func(f *gf.Field) { f.Div(3, 7) }},
		{"Pow", func(f *gf.Field) { f.Pow(3, 7) }},
		{"Pow of below 0", func(f *gf.Field) { f.Pow(3, -7) }},
		{"Dot", func(f *gf.Field) { f.Dot([]byte{3, 4}, []byte{5, 6}) }},
	}
}

func TestMadeAheadOfTheFirstCall(t *testing.T) {
	f := gf.New()
	for range 3 {
		if got := f.Made(); got != 0 {
			t.Fatalf("Made of a new Field = %d, want 0", got)
		}
	}
}

func TestMadeBehindTheFirstCall(t *testing.T) {
	for _, c := range calls() {
		f := gf.New()
		c.ask(f)
		first := f.Made()
		if want := tables(f); first != want {
			t.Errorf("Made behind %s = %d, want %d", c.name, first, want)
		}
		c.ask(f)
		if got := f.Made(); got != first {
			t.Errorf("Made behind %s, and again = %d, then %d", c.name, first, got)
		}
	}
}

func TestMadeOnceForAllCalls(t *testing.T) {
	f := gf.New()
	for range 3 {
		last := f.Made()
		for _, c := range calls() {
			c.ask(f)
			got := f.Made()
			if got < last || got > 1 {
				t.Fatalf("Made behind %s = %d, ahead of it %d", c.name, got, last)
			}
			last = got
		}
	}
	if got, want := f.Made(), tables(f); got != want {
		t.Errorf("Made = %d, want %d", got, want)
	}
}

func TestMadeIsEachFieldsOwn(t *testing.T) {
	used, idle := gf.New(), gf.New()
	for _, c := range calls() {
		c.ask(used)
	}
	if got := idle.Made(); got != 0 {
		t.Errorf("Made of a Field that nobody asked = %d, want 0", got)
	}
	if got := gf.New().Made(); got != 0 {
		t.Errorf("Made of a newer Field = %d, want 0", got)
	}
	for _, c := range calls() {
		c.ask(idle)
	}
	if got, want := idle.Made(), tables(idle); got != want {
		t.Errorf("Made of the second Field = %d, want %d", got, want)
	}
}

func TestMadeOnceForManyAtATime(t *testing.T) {
	f := gf.New()
	var all sync.WaitGroup
	for a := range 64 {
		all.Go(func() {
			if got, want := f.Mul(byte(a), 200), product(byte(a), 200); got != want {
				t.Errorf("Mul(%d, 200) = %d, want %d", a, got, want)
			}
		})
	}
	all.Wait()
	if got, want := f.Made(), tables(f); got != want {
		t.Errorf("Made = %d, want %d", got, want)
	}
}

// Promise 1.3: it is a field.

func TestEachByteHasOneInverse(t *testing.T) {
	f := gf.New()
	for a := range 256 {
		ones := 0
		for b := range 256 {
			if f.Mul(byte(a), byte(b)) == 1 {
				ones++
			}
		}
		if ones != min(a, 1) {
			t.Fatalf("%d bytes make 1 of %d, want %d", ones, a, min(a, 1))
		}
	}
}

func TestInverseUndoes(t *testing.T) {
	f := gf.New()
	for a := 1; a < 256; a++ {
		i, _ := f.Inv(byte(a))
		if got := f.Mul(byte(a), i); got != 1 {
			t.Fatalf("%d times its Inv %d = %d, want 1", a, i, got)
		}
		if back, ok := f.Inv(i); int(back) != a || !ok {
			t.Fatalf("Inv of %d, Inv of %d, = %d", i, a, back)
		}
		for b := range 256 {
			if q, ok := f.Div(f.Mul(byte(a), byte(b)), byte(a)); int(q) != b || !ok {
				t.Fatalf("%d times %d, Div by %d, = %d", a, b, a, q)
			}
		}
	}
}

func TestLawsOfAField(t *testing.T) {
	f := gf.New()
	for a := range 256 {
		for b := range 256 {
			x, y := byte(a), byte(b)
			if f.Mul(x, y) != f.Mul(y, x) {
				t.Fatalf("Mul(%d, %d) is not Mul(%d, %d)", a, b, b, a)
			}
			for _, z := range []byte{0, 1, 2, 29, 128, 255} {
				if f.Mul(f.Mul(x, y), z) != f.Mul(x, f.Mul(y, z)) {
					t.Fatalf("%d, %d, %d: the order of multiplying is to be seen", a, b, z)
				}
				if f.Mul(x^y, z) != f.Mul(x, z)^f.Mul(y, z) {
					t.Fatalf("%d, %d, %d: a sum's product is not the products' sum", a, b, z)
				}
			}
		}
	}
}

// Promise 1.4: no call panics.

func TestNoCallPanics(t *testing.T) {
	defer func() {
		if p := recover(); p != nil {
			t.Errorf("a call panicked: %v", p)
		}
	}()
	edges := []byte{0, 1, 2, 127, 128, 254, 255}
	rows := [][]byte{nil, {}, {0}, {255}, make([]byte, 300), row(1, 257)}
	for _, a := range edges {
		for _, b := range edges {
			f := gf.New()
			f.Mul(a, b)
			f.Div(a, b)
		}
		for _, n := range []int{0, 1, -1, 254, -254, 255, -255, 256, -256, math.MaxInt, math.MinInt, math.MinInt + 1} {
			gf.New().Pow(a, n)
		}
		gf.New().Inv(a)
	}
	for _, a := range rows {
		for _, b := range rows {
			gf.New().Dot(a, b)
		}
	}
	gf.New().Made()
}
