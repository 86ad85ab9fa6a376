package crc_test

import (
	"bytes"
	"hash/crc32"
	"math"
	"slices"
	"testing"

	"hypocaust/crc"
)

// library tells CRC-32C as Go's own library reckons it.
func library(b []byte) uint32 {
	return crc32.Checksum(b, crc32.MakeTable(crc32.Castagnoli))
}

// mixed tells n bytes that look mixed, the same ones each time.
func mixed(n int) []byte {
	b := make([]byte, n)
	state := uint64(n) + 11
	for i := range b {
		state = state*6364136223846793005 + 1442695040888963407
		b[i] = byte(state >> 40)
	}
	return b
}

// turn turns bit i of b.
func turn(b []byte, i int) {
	b[i/8] ^= 1 << (i % 8)
}

// registers are such as stand out, and mixed ones.
func registers() []uint32 {
	all := []uint32{0, 1, 128, 255, 256, 0xedb88320, 0x82f63b78, math.MaxInt32, 1 << 31, math.MaxUint32 - 1, math.MaxUint32}
	for i := range 32 {
		all = append(all, 1<<i, ^uint32(1<<i))
	}
	state := uint32(7)
	for range 200 {
		state = state*1664525 + 1013904223
		all = append(all, state)
	}
	return all
}

// Promise 3.1: Step.

func TestStepExamples(t *testing.T) {
	for _, c := range []struct {
		reg  uint32
		c    byte
		want uint32
	}{
		{0, 0, 0},
		{0, 128, 0x82f63b78}, // one bit, out at the last shift
		{0, 1, 0xf26b8303},   // one bit, out at the first shift
		{128, 0, 0x82f63b78}, // the register's low byte is as good as c
		{1, 1, 0},            // the two are exclusive or-ed, not added
		{128, 128, 0},
		{255, 255, 0},
		{1 << 8, 0, 1}, // what lies above the low byte is but shifted
		{0xffffff00, 0, 0x00ffffff},
		{0x12345600, 0, 0x00123456},
		{0x12345678, 0x78, 0x00123456},
		{0x12345600, 128, 0x00123456 ^ 0x82f63b78},
	} {
		if got := crc.Step(c.reg, c.c); got != c.want {
			t.Errorf("Step(%08x, %02x) = %08x, want %08x", c.reg, c.c, got, c.want)
		}
	}
}

func TestStepOfAllBytes(t *testing.T) {
	table := crc32.MakeTable(crc32.Castagnoli)
	for _, reg := range registers() {
		for c := range 256 {
			// The library turns all bits of what it is handed, and of what it answers.
			want := ^crc32.Update(^reg, table, []byte{byte(c)})
			if got := crc.Step(reg, byte(c)); got != want {
				t.Fatalf("Step(%08x, %02x) = %08x, want %08x", reg, c, got, want)
			}
		}
	}
}

// Promise 3.1: Sum.

// sums are rows whose sums are written down in many a place.
func sums() []struct {
	name string
	b    []byte
	want uint32
} {
	rising, falling := make([]byte, 32), make([]byte, 32)
	for i := range rising {
		rising[i], falling[i] = byte(i), byte(31-i)
	}
	command := make([]byte, 48) // a command to read, of RFC 3720
	command[0], command[1], command[16], command[22], command[27], command[31], command[32], command[40] = 1, 0xc0, 0x14, 4, 0x14, 0x18, 0x28, 2
	return []struct {
		name string
		b    []byte
		want uint32
	}{
		{"123456789", []byte("123456789"), 0xe3069283},
		{"nil", nil, 0},
		{"no bytes", []byte{}, 0},
		{"one nought", []byte{0}, 0x527d5351},
		{"one of ones", []byte{255}, 0xff000000},
		{"a", []byte("a"), 0xc1d04330},
		{"abc", []byte("abc"), 0x364b3fb7},
		{"four of ones", bytes.Repeat([]byte{255}, 4), 0xffffffff},
		{"32 noughts", make([]byte, 32), 0x8a9136aa},
		{"32 of ones", bytes.Repeat([]byte{255}, 32), 0x62a8ab43},
		{"0 to 31", rising, 0x46dd794e},
		{"31 to 0", falling, 0x113fdb5c},
		{"a command to read", command, 0xd9963a56},
	}
}

func TestSumExamples(t *testing.T) {
	for _, c := range sums() {
		if got := crc.Sum(c.b); got != c.want {
			t.Errorf("Sum of %s = %08x, want %08x", c.name, got, c.want)
		}
	}
}

func TestSumOfManyLengths(t *testing.T) {
	for n := range 600 {
		for _, b := range [][]byte{mixed(n), make([]byte, n), bytes.Repeat([]byte{255}, n)} {
			if got, want := crc.Sum(b), library(b); got != want {
				t.Fatalf("Sum of %d bytes = %08x, want %08x", n, got, want)
			}
		}
	}
}

func TestSumOfEachByte(t *testing.T) {
	for c := range 256 {
		b := []byte{byte(c)}
		if got, want := crc.Sum(b), library(b); got != want {
			t.Errorf("Sum of %02x = %08x, want %08x", c, got, want)
		}
	}
}

func TestSumIsOneStepForEachByte(t *testing.T) {
	b := mixed(300)
	reg := uint32(0xffffffff)
	for i, c := range b {
		if got := crc.Sum(b[:i]); got != ^reg {
			t.Fatalf("Sum of %d bytes = %08x, want %08x", i, got, ^reg)
		}
		reg = crc.Step(reg, c)
	}
}

// Noughts ahead of a row, behind it, and more or fewer of them are other rows.
func TestSumSeesNoughts(t *testing.T) {
	seen := map[uint32]string{}
	for ahead := range 20 {
		for behind := range 20 {
			b := slices.Concat(make([]byte, ahead), []byte{9}, make([]byte, behind))
			if other, ok := seen[crc.Sum(b)]; ok {
				t.Fatalf("%x has the sum of %s", b, other)
			}
			seen[crc.Sum(b)] = "another"
		}
	}
	for n := range 400 {
		if other, ok := seen[crc.Sum(make([]byte, n))]; ok {
			t.Fatalf("%d noughts have the sum of %s", n, other)
		}
		seen[crc.Sum(make([]byte, n))] = "noughts"
	}
}

// Promise 3.1: Many.

func TestManyOfNothing(t *testing.T) {
	for name, l := range map[string][][]byte{
		"nil": nil, "no rows": {}, "a nil": {nil}, "an empty one": {{}}, "three of no bytes": {nil, {}, nil},
	} {
		if got := crc.Many(l...); got != 0 {
			t.Errorf("Many of %s = %08x, want 0", name, got)
		}
	}
	if got := crc.Many(); got != 0 {
		t.Errorf("Many() = %08x, want 0", got)
	}
}

func TestManyOfOneRowIsSum(t *testing.T) {
	for _, c := range sums() {
		if got := crc.Many(c.b); got != c.want {
			t.Errorf("Many of %s = %08x, want %08x", c.name, got, c.want)
		}
	}
}

func TestManyOfThreeParts(t *testing.T) {
	b := mixed(40)
	want := library(b)
	for i := range len(b) + 1 {
		for j := i; j <= len(b); j++ {
			if got := crc.Many(b[:i], b[i:j], b[j:]); got != want {
				t.Fatalf("Many of %d, %d and %d bytes = %08x, want %08x", i, j-i, len(b)-j, got, want)
			}
		}
	}
}

func TestManyPassesEmptyRows(t *testing.T) {
	want := library([]byte("123456789"))
	if got := crc.Many(nil, []byte("1234"), nil, []byte{}, []byte("56789"), []byte{}, nil); got != want {
		t.Errorf("Many = %08x, want %08x", got, want)
	}
}

func TestManyOfManyRows(t *testing.T) {
	b := mixed(5000)
	var ones, growing [][]byte
	for i := range b {
		ones = append(ones, b[i:i+1])
	}
	for at, n := 0, 0; at < len(b); n++ {
		to := min(at+n, len(b))
		growing = append(growing, b[at:to])
		at = to
	}
	for _, l := range [][][]byte{ones, growing} {
		if got, want := crc.Many(l...), library(b); got != want {
			t.Errorf("Many of %d rows = %08x, want %08x", len(l), got, want)
		}
	}
}

// Rows are taken in their order, one that comes twice twice, and how far each goes is no matter.
func TestManyHangsOnOrder(t *testing.T) {
	x, y := []byte("12"), []byte("345")
	for _, l := range [][][]byte{{x, y}, {y, x}, {x, x}, {x, x, y}, {y, y, y, x}} {
		if got, want := crc.Many(l...), library(slices.Concat(l...)); got != want {
			t.Errorf("Many of %s = %08x, want %08x", l, got, want)
		}
	}
	if crc.Many(x, y) == crc.Many(y, x) {
		t.Error("Many is the same in another order")
	}
}

// Promise 3.2 and W3: what was changed has another sum.

func TestOneBitTurned(t *testing.T) {
	for n := 1; n <= 100; n++ {
		for _, b := range [][]byte{mixed(n), make([]byte, n), bytes.Repeat([]byte{255}, n)} {
			whole := crc.Sum(b)
			for i := range 8 * n {
				turn(b, i)
				if crc.Sum(b) == whole {
					t.Fatalf("%d bytes have the same sum with bit %d turned", n, i)
				}
				turn(b, i)
			}
		}
	}
}

func TestOneBitTurnedInALongRow(t *testing.T) {
	b := mixed(1000)
	whole := crc.Sum(b)
	for i := range 8 * len(b) {
		turn(b, i)
		if crc.Sum(b) == whole {
			t.Fatalf("the same sum with bit %d turned", i)
		}
		turn(b, i)
	}
}

func TestOneBitTurnedInOneOfManyRows(t *testing.T) {
	l := [][]byte{mixed(8), nil, mixed(1), mixed(64), {}, {0}}
	whole := crc.Many(l...)
	for k, b := range l {
		for i := range 8 * len(b) {
			turn(b, i)
			if crc.Many(l...) == whole {
				t.Fatalf("the same sum with bit %d of row %d turned", i, k)
			}
			turn(b, i)
		}
	}
}

func TestOneBitTurnedAheadOfAStep(t *testing.T) {
	for _, reg := range registers() {
		for c := range 256 {
			whole := crc.Step(reg, byte(c))
			for i := range 32 {
				if crc.Step(reg^1<<i, byte(c)) == whole {
					t.Fatalf("Step(%08x, %02x) is the same with bit %d of the register turned", reg, c, i)
				}
			}
			for i := range 8 {
				if crc.Step(reg, byte(c)^1<<i) == whole {
					t.Fatalf("Step(%08x, %02x) is the same with bit %d of the byte turned", reg, c, i)
				}
			}
		}
	}
}

// The longest row that is checked of a chunk has 72 bytes: two bits of it turned show, too.
func TestTwoBitsTurned(t *testing.T) {
	b := mixed(72)
	whole := crc.Sum(b)
	for i := range 8 * len(b) {
		turn(b, i)
		for j := range i {
			turn(b, j)
			if crc.Sum(b) == whole {
				t.Fatalf("the same sum with bits %d and %d turned", i, j)
			}
			turn(b, j)
		}
		turn(b, i)
	}
}

// At most 32 bits in a row that are changed, however they are, show: here four bytes, and a torn end of noughts.
func TestFourBytesChanged(t *testing.T) {
	b := mixed(72)
	whole := crc.Sum(b)
	changes := mixed(4 * 500)
	for at := range len(b) - 3 {
		for i := 0; i < len(changes); i += 4 {
			other := slices.Clone(b)
			for j := range 4 {
				other[at+j] ^= changes[i+j]
			}
			if !bytes.Equal(other, b) && crc.Sum(other) == whole {
				t.Fatalf("%x changed at %d: the same sum", changes[i:i+4], at)
			}
		}
	}
	for n := range b {
		torn := append(slices.Clone(b[:n]), make([]byte, len(b)-n)...)
		if !bytes.Equal(torn, b) && crc.Sum(torn) == whole {
			t.Fatalf("torn behind %d bytes: the same sum", n)
		}
	}
}

// Rules: what is handed in is left alone, and an answer hangs on nothing else.

func TestRowsAreLeftAlone(t *testing.T) {
	room := mixed(60)
	rows := [][]byte{room[:10], room[20:45], nil, {7}, {8}}
	first, sum := crc.Many(rows[:3]...), crc.Sum(room[:10])
	if !bytes.Equal(room, mixed(60)) {
		t.Error("the bytes that were handed in were changed")
	}
	if len(rows[0]) != 10 || len(rows[1]) != 25 || rows[2] != nil || !bytes.Equal(rows[3], []byte{7}) || !bytes.Equal(rows[4], []byte{8}) {
		t.Errorf("the rows that were handed in were changed: %x", rows)
	}
	clear(room[10:20])
	clear(room[45:])
	clear(rows[3:])
	if got := crc.Many(rows[:3]...); got != first {
		t.Errorf("Many = %08x, then %08x, with other bytes behind its rows", first, got)
	}
	if got := crc.Sum(room[:10]); got != sum {
		t.Errorf("Sum = %08x, then %08x, with other bytes behind its row", sum, got)
	}
}

func TestSameAnswerEachTime(t *testing.T) {
	b := mixed(50)
	sum, many, step := crc.Sum(b), crc.Many(b, b), crc.Step(5, 6)
	for i := range 20 {
		crc.Sum(mixed(i))
		crc.Step(uint32(i), byte(i))
		crc.Many(mixed(i), b)
		if crc.Sum(b) != sum || crc.Many(b, b) != many || crc.Step(5, 6) != step {
			t.Fatalf("another answer behind %d other calls", i+1)
		}
	}
}

// Promise 3.3: no call panics.

func TestNoCallPanics(t *testing.T) {
	defer func() {
		if p := recover(); p != nil {
			t.Errorf("a call panicked: %v", p)
		}
	}()
	rows := [][]byte{nil, {}, {0}, {255}, mixed(96), mixed(65536), make([]byte, 1<<20)}
	for _, x := range rows {
		crc.Sum(x)
		crc.Many(x)
		for _, y := range rows[:6] {
			crc.Many(x, y)
			crc.Many(nil, x, nil, y)
		}
	}
	crc.Many()
	crc.Many(nil)
	crc.Many(rows...)
	crc.Many(make([][]byte, 100000)...)
	for _, reg := range registers() {
		for c := range 256 {
			crc.Step(reg, byte(c))
		}
	}
}
