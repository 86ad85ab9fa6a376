// Package gf is a field of 256: bytes that are added, multiplied and divided, and each answer is a byte again.
package gf

import (
	"sync"
	"sync/atomic"
)

// modulus is what products are reckoned modulo: the powers 8, 4, 3, 2 and 0.
const modulus = 0x11d

// order is how many bytes there are but 0: each of them, multiplied that often, is 1.
const order = 255

// Field multiplies by adding: each byte but 0 is a power of 2, so that two tables are enough for all calls.
type Field struct {
	once sync.Once
	made atomic.Int32
	exp  [order]byte     // the powers of 2
	log  [order + 1]byte // which power a byte is; log[0] tells nothing
}

// New makes a Field; its tables wait for the first call that needs them.
func New() *Field {
	return &Field{}
}

// fill makes the tables: doubling meets each byte but 0 once before it is at 1 again.
func (f *Field) fill() {
	power := 1
	for i := range order {
		f.exp[i] = byte(power)
		f.log[power] = byte(i)
		power <<= 1
		if power > 255 {
			power ^= modulus
		}
	}
	f.made.Add(1)
}

// logOf tells which power of 2 a is; a is not 0.
func (f *Field) logOf(a byte) int {
	f.once.Do(f.fill)
	return int(f.log[a])
}

// expOf tells that power of 2, n below 0 too.
func (f *Field) expOf(n int) byte {
	f.once.Do(f.fill)
	n %= order
	if n < 0 {
		n += order
	}
	return f.exp[n]
}

// Mul multiplies a and b.
func (f *Field) Mul(a, b byte) byte {
	if a == 0 || b == 0 {
		return 0
	}
	return f.expOf(f.logOf(a) + f.logOf(b))
}

// Inv tells what makes 1 of a; false, if a is 0.
func (f *Field) Inv(a byte) (byte, bool) {
	if a == 0 {
		return 0, false
	}
	return f.expOf(-f.logOf(a)), true
}

// Div tells a times Inv of b; false, if b is 0.
func (f *Field) Div(a, b byte) (byte, bool) {
	inverse, ok := f.Inv(b)
	if !ok {
		return 0, false
	}
	return f.Mul(a, inverse), true
}

// Pow multiplies a n times; n below 0: Inv of a as often.
func (f *Field) Pow(a byte, n int) byte {
	if n == 0 {
		return 1
	}
	if a == 0 {
		return 0
	}
	// n is cut first: times a logarithm it could wrap round.
	return f.expOf(f.logOf(a) * (n % order))
}

// Dot sums a times b, place by place, as far as both go.
func (f *Field) Dot(a, b []byte) byte {
	var sum byte
	for i := range min(len(a), len(b)) {
		sum ^= f.Mul(a[i], b[i])
	}
	return sum
}

// Made tells how many times the tables were made: 0 or 1.
func (f *Field) Made() int {
	return int(f.made.Load())
}
