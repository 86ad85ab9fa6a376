package pad_test

import (
	"bytes"
	"math"
	"math/bits"
	"slices"
	"testing"

	"hypocaust/api"
	"hypocaust/code"
	"hypocaust/conv"
	"hypocaust/gf"
	"hypocaust/pad"
)

// mixer tells bytes that look mixed, none of them 0, the same ones each time.
type mixer uint64

func (m *mixer) bytes(n int) []byte {
	b := make([]byte, n)
	for i := range b {
		*m = *m*6364136223846793005 + 1442695040888963407
		b[i] = byte(*m>>40) | 1
	}
	return b
}

func (m *mixer) rows(count, n int) [][]byte {
	l := make([][]byte, count)
	for i := range l {
		l[i] = m.bytes(n)
	}
	return l
}

// edges are numbers at which something may turn over.
func edges() []int {
	l := []int{math.MinInt, math.MinInt + 1, math.MinInt + 64, -1 << 62, -1 << 32, -65, -64, -16, -3, -2, -1}
	return append(l, 65, 66, 80, 128, 255, 256, 320, 1<<16, 1<<32, 1<<32+2, 1<<62, 1<<62+1, math.MaxInt-64, math.MaxInt-1, math.MaxInt)
}

// tooLong are lengths that no blob has.
func tooLong() []int {
	return []int{65, 66, 67, 79, 80, 127, 128, 255, 256, 257, 320, 1 << 16, 1 << 20}
}

// filled tells b and noughts behind it, byte by byte.
func filled(b []byte) []byte {
	l := []byte{}
	for i := range 64 {
		var c byte
		if i < len(b) {
			c = b[i]
		}
		l = append(l, c)
	}
	return l
}

// roomy tells b with other bytes in the spare room behind it.
func roomy(b []byte) []byte {
	return append(slices.Clone(b), bytes.Repeat([]byte{0xee}, 80)...)[:len(b)]
}

// roomyRows is roomy of each row, in a list with other rows behind it.
func roomyRows(rows [][]byte) [][]byte {
	l := [][]byte{}
	for _, row := range rows {
		l = append(l, roomy(row))
	}
	return append(l, []byte("behind"), []byte("behind"))[:len(rows)]
}

// untouched tells whether handed, that roomy made of was, is as it was; then all its bytes are changed, so that an answer that lies in them shows.
func untouched(t *testing.T, name string, handed, was []byte) {
	t.Helper()
	room := handed[len(handed) : len(handed)+80]
	if !bytes.Equal(handed, was) || !bytes.Equal(room, bytes.Repeat([]byte{0xee}, 80)) {
		t.Fatalf("%s changed what it was handed: %v, and behind it %v", name, handed, room)
	}
	spoil(handed)
}

// untouchedRows is untouched of each row, and of their list.
func untouchedRows(t *testing.T, name string, handed, was [][]byte) {
	t.Helper()
	behind := handed[len(handed) : len(handed)+2]
	if len(handed) != len(was) || string(behind[0]) != "behind" || string(behind[1]) != "behind" {
		t.Fatalf("%s changed the list that it was handed: %v, and behind it %v", name, handed, behind)
	}
	for i := range handed {
		untouched(t, name, handed[i], was[i])
	}
	clear(handed)
}

// spoil changes all bytes of b, its spare room's too.
func spoil(b []byte) {
	b = b[:cap(b)]
	for i := range b {
		b[i] ^= 0xa5
	}
}

// is tells whether just these bytes were answered, and true.
func is(t *testing.T, name string, got []byte, ok bool, want []byte) {
	t.Helper()
	if !ok || !bytes.Equal(got, want) {
		t.Fatalf("%s = %v, %v, want %v, true", name, got, ok, want)
	}
}

// refused tells whether nothing was answered, and false.
func refused(t *testing.T, name string, n int, ok bool) {
	t.Helper()
	if ok || n != 0 {
		t.Errorf("%s: %d of them, %v, want nothing, false", name, n, ok)
	}
}

// Promise 6.1: Full.

func TestFullExamples(t *testing.T) {
	got, ok := pad.Full([]byte{1, 2, 3})
	is(t, "Full of 1 2 3", got, ok, append([]byte{1, 2, 3}, make([]byte, 61)...))
	for _, b := range [][]byte{nil, {}} {
		got, ok = pad.Full(b)
		is(t, "Full of nothing", got, ok, make([]byte, 64))
	}
	all := bytes.Repeat([]byte{255}, 64)
	got, ok = pad.Full(all)
	is(t, "Full of 64", got, ok, all)
}

func TestFullOfAllLengths(t *testing.T) {
	var mix mixer
	for n := range 65 {
		for _, b := range [][]byte{mix.bytes(n), make([]byte, n), append(make([]byte, n/2), mix.bytes(n-n/2)...)} {
			got, ok := pad.Full(b)
			is(t, "Full", got, ok, filled(b))
		}
	}
}

// A nought at a blob's end is no other than one behind it: Full of these is the same.
func TestFullOfNoughtsAtTheEnd(t *testing.T) {
	for n := range 62 {
		got, ok := pad.Full(append([]byte{7, 0, 9}, make([]byte, n)...))
		is(t, "Full", got, ok, append([]byte{7, 0, 9}, make([]byte, 61)...))
	}
}

func TestFullRefuses(t *testing.T) {
	var mix mixer
	for _, n := range tooLong() {
		for _, b := range [][]byte{mix.bytes(n), make([]byte, n)} {
			got, ok := pad.Full(b)
			refused(t, "Full", len(got), ok)
		}
	}
}

func TestFullLeavesWhatItIsHanded(t *testing.T) {
	var mix mixer
	for n := range 65 {
		b := mix.bytes(n)
		handed := roomy(b)
		got, ok := pad.Full(handed)
		untouched(t, "Full", handed, b)
		is(t, "Full", got, ok, filled(b))
		spoil(got)
		got, ok = pad.Full(b)
		is(t, "Full once more", got, ok, filled(b))
	}
}

// Promise 6.1: Cut.

// cutIs tells whether l is b, filled up, in four shards of 16.
func cutIs(t *testing.T, l [][]byte, ok bool, b []byte) {
	t.Helper()
	full := filled(b)
	if !ok || len(l) != 4 {
		t.Fatalf("Cut of %v = %v, %v, want four shards, true", b, l, ok)
	}
	for i, shard := range l {
		if !bytes.Equal(shard, full[16*i:16*i+16]) {
			t.Fatalf("Cut of %v: shard %d is %v", b, i, shard)
		}
	}
}

func TestCutOfAllLengths(t *testing.T) {
	var mix mixer
	for n := range 65 {
		for _, b := range [][]byte{mix.bytes(n), make([]byte, n)} {
			got, ok := pad.Cut(b)
			cutIs(t, got, ok, b)
		}
	}
	got, ok := pad.Cut(nil)
	cutIs(t, got, ok, nil)
}

func TestCutRefuses(t *testing.T) {
	var mix mixer
	for _, n := range tooLong() {
		for _, b := range [][]byte{mix.bytes(n), make([]byte, n)} {
			got, ok := pad.Cut(b)
			refused(t, "Cut", len(got), ok)
		}
	}
}

func TestCutLeavesWhatItIsHanded(t *testing.T) {
	var mix mixer
	for n := range 65 {
		b := mix.bytes(n)
		handed := roomy(b)
		got, ok := pad.Cut(handed)
		untouched(t, "Cut", handed, b)
		cutIs(t, got, ok, b)
	}
}

// What is written to one shard, or behind it, is not written to another one.
func TestShardsAreApart(t *testing.T) {
	var mix mixer
	b := mix.bytes(64)
	for i := range 4 {
		got, ok := pad.Cut(b)
		cutIs(t, got, ok, b)
		spoil(got[i])
		_ = append(got[i], mix.bytes(48)...)
		for j := range 4 {
			if j != i && !bytes.Equal(got[j], b[16*j:16*j+16]) {
				t.Errorf("shards %d and %d share memory", i, j)
			}
		}
	}
}

// Promise 6.1: Join.

func TestJoinExamples(t *testing.T) {
	first, second, third, fourth := []byte("abcdefghijklmnop"), []byte("qrstuvwxyzABCDEF"), []byte("GHIJKLMNOPQRSTUV"), []byte("WXYZ0123456789+-")
	shards := [][]byte{first, second, third, fourth}
	for n, want := range map[int]string{
		0:  "",
		1:  "a",
		15: "abcdefghijklmno",
		16: "abcdefghijklmnop",
		17: "abcdefghijklmnopq",
		33: "abcdefghijklmnopqrstuvwxyzABCDEFG",
		63: "abcdefghijklmnopqrstuvwxyzABCDEFGHIJKLMNOPQRSTUVWXYZ0123456789+",
		64: "abcdefghijklmnopqrstuvwxyzABCDEFGHIJKLMNOPQRSTUVWXYZ0123456789+-",
	} {
		got, ok := pad.Join(shards, n)
		is(t, "Join", got, ok, []byte(want))
	}
	got, ok := pad.Join([][]byte{fourth, first, first, second}, 18)
	is(t, "Join in another order", got, ok, []byte("WXYZ0123456789+-ab"))
}

// What lies behind the first n bytes may be anything, not noughts alone.
func TestJoinOfAllLengths(t *testing.T) {
	var mix mixer
	for n := range 65 {
		shards := mix.rows(4, 16)
		got, ok := pad.Join(shards, n)
		is(t, "Join", got, ok, bytes.Join(shards, nil)[:n])
	}
}

// One row may be handed in at several places.
func TestJoinOfOneRowFourTimes(t *testing.T) {
	var mix mixer
	row := mix.bytes(16)
	got, ok := pad.Join([][]byte{row, row, row, row}, 64)
	is(t, "Join", got, ok, bytes.Repeat(row, 4))
}

// torn are shards that are not four of 16.
func torn(mix *mixer) map[string][][]byte {
	l := map[string][][]byte{
		"nil":                      nil,
		"none":                     {},
		"one":                      mix.rows(1, 16),
		"two":                      mix.rows(2, 16),
		"three":                    mix.rows(3, 16),
		"five":                     mix.rows(5, 16),
		"six":                      mix.rows(6, 16),
		"eight":                    mix.rows(8, 16),
		"260":                      mix.rows(260, 16),
		"four nils":                make([][]byte, 4),
		"four empty ones":          mix.rows(4, 0),
		"four of 15":               mix.rows(4, 15),
		"four of 17":               mix.rows(4, 17),
		"four of 64":               mix.rows(4, 64),
		"one of 64":                mix.rows(1, 64),
		"two of 32":                mix.rows(2, 32),
		"eight of 8":               mix.rows(8, 8),
		"64 in one of four":        {mix.bytes(64), nil, nil, nil},
		"64 shared unevenly":       {mix.bytes(15), mix.bytes(17), mix.bytes(16), mix.bytes(16)},
		"64 in two of four":        {nil, mix.bytes(32), {}, mix.bytes(32)},
		"four, and a nil":          append(mix.rows(4, 16), nil),
		"four, and an empty one":   append(mix.rows(4, 16), []byte{}),
		"a nil, and four":          append([][]byte{nil}, mix.rows(4, 16)...),
		"a great many of one byte": mix.rows(64, 1),
	}
	for i := range 4 {
		for name, shard := range map[string][]byte{"nil": nil, "empty": {}, "of 1": {1}, "of 15": mix.bytes(15), "of 17": mix.bytes(17), "of 32": mix.bytes(32), "of 272": mix.bytes(272)} {
			shards := mix.rows(4, 16)
			shards[i] = shard
			l["shard "+string(rune('0'+i))+" "+name] = shards
		}
	}
	return l
}

func TestJoinRefusesShards(t *testing.T) {
	var mix mixer
	for name, shards := range torn(&mix) {
		for _, n := range []int{0, 1, 15, 16, 17, 32, 48, 63, 64, 65, -1} {
			got, ok := pad.Join(shards, n)
			refused(t, "Join of shards, "+name, len(got), ok)
		}
	}
}

// Spare room behind a shard that is too short does not make it whole.
func TestJoinRefusesShortShardsWithRoom(t *testing.T) {
	var mix mixer
	shards := mix.rows(4, 16)
	for i := range 4 {
		l := slices.Clone(shards)
		l[i] = l[i][:15]
		got, ok := pad.Join(l, 4)
		refused(t, "Join", len(got), ok)
	}
	got, ok := pad.Join(shards[:3], 4)
	refused(t, "Join of three", len(got), ok)
}

func TestJoinRefusesLengths(t *testing.T) {
	var mix mixer
	shards := mix.rows(4, 16)
	for _, n := range edges() {
		got, ok := pad.Join(shards, n)
		refused(t, "Join", len(got), ok)
	}
}

func TestJoinLeavesWhatItIsHanded(t *testing.T) {
	var mix mixer
	for n := range 65 {
		shards := mix.rows(4, 16)
		want := bytes.Join(shards, nil)[:n]
		handed := roomyRows(shards)
		got, ok := pad.Join(handed, n)
		untouchedRows(t, "Join", handed, shards)
		is(t, "Join", got, ok, want)
	}
}

// Promise 6.1: Part.

func TestPartExamples(t *testing.T) {
	b := []byte{1, 2, 3}
	for _, x := range []struct {
		at, n int
		want  []byte
		ok    bool
	}{
		{1, 2, []byte{2, 3}, true},
		{0, 3, []byte{1, 2, 3}, true},
		{2, 1, []byte{3}, true},
		{0, 0, nil, true},
		{1, 0, nil, true},
		{3, 0, nil, true},
		{4, 0, nil, false},
		{3, 1, nil, false},
		{2, 2, nil, false},
		{0, 4, nil, false},
		{-1, 0, nil, false},
		{-1, 1, nil, false},
		{-1, 2, nil, false},
		{-3, 3, nil, false},
		{0, -1, nil, false},
		{3, -1, nil, false},
		{2, -2, nil, false},
		{-1, -1, nil, false},
	} {
		got, ok := pad.Part(b, x.at, x.n)
		if ok != x.ok || !bytes.Equal(got, x.want) {
			t.Errorf("Part of %d from %d on = %v, %v, want %v, %v", x.n, x.at, got, ok, x.want, x.ok)
		}
	}
}

// partly tells what Part is to tell, a byte at a time.
func partly(b []byte, at, n int) ([]byte, bool) {
	l := []byte{}
	if at < 0 || at > len(b) || n < 0 {
		return nil, false
	}
	for range n {
		if at == len(b) {
			return nil, false
		}
		l = append(l, b[at])
		at++
	}
	return l, true
}

// More than a blob's bytes may have parts, too.
func TestPartOfAllLengths(t *testing.T) {
	var mix mixer
	for _, size := range []int{0, 1, 2, 3, 15, 16, 17, 63, 64, 65, 100, 300} {
		b := mix.bytes(size)
		for at := -3; at < size+4; at++ {
			for n := -3; n < size+4; n++ {
				got, ok := pad.Part(b, at, n)
				want, is := partly(b, at, n)
				if ok != is || !bytes.Equal(got, want) {
					t.Fatalf("Part of %d from %d on, of %d bytes = %v, %v, want %v, %v", n, at, size, got, ok, want, is)
				}
			}
		}
	}
	got, ok := pad.Part(nil, 0, 0)
	is(t, "Part of nil", got, ok, nil)
}

// Two numbers that together come round to ones that may be may not.
func TestPartRefusesGreatNumbers(t *testing.T) {
	var mix mixer
	numbers := append(edges(), 0, 1, 2, 3, 16, 64)
	for _, size := range []int{0, 1, 3, 64} {
		b := mix.bytes(size)
		for _, at := range numbers {
			for _, n := range numbers {
				if at >= 0 && at <= size && n >= 0 && n <= size-at {
					continue
				}
				got, ok := pad.Part(b, at, n)
				refused(t, "Part", len(got), ok)
			}
		}
	}
}

// What lies in the spare room behind b is not there.
func TestPartStopsAtTheEnd(t *testing.T) {
	room := []byte{1, 2, 3, 4, 5, 6}
	for _, x := range [][2]int{{0, 4}, {3, 1}, {4, 0}, {4, 1}, {2, 2}, {5, 1}, {6, 0}} {
		got, ok := pad.Part(room[:3], x[0], x[1])
		refused(t, "Part", len(got), ok)
	}
}

func TestPartLeavesWhatItIsHanded(t *testing.T) {
	var mix mixer
	for _, size := range []int{0, 1, 9, 64, 100} {
		for at := range size + 1 {
			for n := range size - at + 1 {
				b := mix.bytes(size)
				handed := roomy(b)
				got, ok := pad.Part(handed, at, n)
				untouched(t, "Part", handed, b)
				is(t, "Part", got, ok, b[at:at+n])
			}
		}
	}
}

// What is written to an answer, or behind it, is not written to what was handed in.
func TestPartIsNewMemory(t *testing.T) {
	var mix mixer
	b := mix.bytes(40)
	was := slices.Clone(b)
	for at := range 41 {
		for n := range 41 - at {
			got, _ := pad.Part(b, at, n)
			spoil(got)
			_ = append(got, 99, 98, 97)
			if !bytes.Equal(b, was) {
				t.Fatalf("Part of %d from %d on shares memory with what it was handed", n, at)
			}
		}
	}
}

// Promise 6.2: what is cut is joined again.

func TestCutIsJoinedAgain(t *testing.T) {
	var mix mixer
	for n := range 65 {
		for _, b := range [][]byte{mix.bytes(n), make([]byte, n), bytes.Repeat([]byte{255}, n)} {
			shards, ok := pad.Cut(b)
			if !ok {
				t.Fatalf("Cut of %d bytes is false", n)
			}
			got, ok := pad.Join(shards, n)
			is(t, "Join", got, ok, b)
			full, _ := pad.Full(b)
			got, ok = pad.Join(shards, 64)
			is(t, "Join of all", got, ok, full)
			got, ok = pad.Part(full, 0, n)
			is(t, "Part of Full", got, ok, b)
		}
	}
}

// And what is joined is cut again.
func TestJoinedIsCutAgain(t *testing.T) {
	var mix mixer
	for range 50 {
		shards := mix.rows(4, 16)
		b, ok := pad.Join(shards, 64)
		if !ok {
			t.Fatal("Join is false")
		}
		got, ok := pad.Cut(b)
		cutIs(t, got, ok, bytes.Join(shards, nil))
	}
}

// without tells all but those of mask's bits, which are nil.
func without(all [][]byte, mask int) [][]byte {
	l := slices.Clone(all)
	for i := range l {
		if mask>>i&1 == 1 {
			l[i] = nil
		}
	}
	return l
}

// whole tells all shards of c when those of mask are lost.
func whole(t *testing.T, c *code.Code, all [][]byte, mask int) [][]byte {
	t.Helper()
	l, e := c.Decode(without(all, mask))
	if e != api.OK {
		t.Fatalf("Decode without %b: %v", mask, e)
	}
	return l
}

// W7: a blob that was cut and coded is read as it was, two of six being lost.
func TestNarrowIsReadAsItWas(t *testing.T) {
	f := gf.New()
	var mix mixer
	for n := range 65 {
		b := mix.bytes(n)
		data, _ := pad.Cut(b)
		parities, e := conv.Split(f, n%3, data)
		c, g := conv.Narrow(f, n%3)
		if e != api.OK || g != api.OK {
			t.Fatal(e, g)
		}
		six := conv.Stored(data, parities)
		for mask := range 1 << 6 {
			if bits.OnesCount(uint(mask)) == 2 {
				got, ok := pad.Join(whole(t, c, six, mask)[:4], n)
				is(t, "Join", got, ok, b)
			}
		}
	}
}

// W7: three blobs that were cut and merged are read as they were, four of sixteen being lost.
func TestWideIsReadAsItWas(t *testing.T) {
	f := gf.New()
	var mix mixer
	var blobs, all [][]byte
	var stripes [][][]byte
	for colour, n := range []int{5, 64, 33} {
		b := mix.bytes(n)
		data, _ := pad.Cut(b)
		parities, e := conv.Split(f, colour, data)
		if e != api.OK {
			t.Fatal(e)
		}
		blobs, all, stripes = append(blobs, b), append(all, data...), append(stripes, conv.Stored(data, parities))
	}
	wide, e := conv.Merge(f, stripes)
	c, g := conv.Wide(f)
	if e != api.OK || g != api.OK {
		t.Fatal(e, g)
	}
	all = slices.Concat(all, [][]byte{make([]byte, 16), make([]byte, 16)}, wide)
	for mask := range 1 << 18 {
		if bits.OnesCount(uint(mask)) != 4 || mask>>12&3 != 0 {
			continue
		}
		l := whole(t, c, all, mask)
		for part, b := range blobs {
			got, ok := pad.Join(l[4*part:4*part+4], len(b))
			is(t, "Join", got, ok, b)
		}
	}
}

// Rules: an answer hangs on nothing but what was handed in.

func TestSameAnswerEachTime(t *testing.T) {
	var mix mixer
	b := mix.bytes(21)
	for range 20 {
		full, ok := pad.Full(b)
		is(t, "Full", full, ok, filled(b))
		shards, ok := pad.Cut(b)
		cutIs(t, shards, ok, b)
		joined, ok := pad.Join(shards, 21)
		is(t, "Join", joined, ok, b)
		part, ok := pad.Part(b, 5, 9)
		is(t, "Part", part, ok, b[5:14])
		for _, answer := range append(shards, full, joined, part) {
			spoil(answer)
		}
		pad.Full(mix.bytes(70))
		pad.Cut(mix.bytes(64))
		pad.Join(mix.rows(4, 16), 64)
		pad.Part(mix.bytes(64), 64, 1)
	}
}

// Promise 6.3: no call panics.

func TestNoCallPanics(t *testing.T) {
	defer func() {
		if p := recover(); p != nil {
			t.Errorf("a call panicked: %v", p)
		}
	}()
	var mix mixer
	numbers := append(edges(), 0, 1, 2, 15, 16, 17, 63, 64)
	for _, n := range append(tooLong(), 0, 1, 16, 63, 64) {
		b := mix.bytes(n)
		pad.Full(b)
		pad.Cut(b)
		for _, at := range numbers {
			for _, count := range numbers {
				pad.Part(b, at, count)
			}
		}
	}
	for _, at := range numbers {
		for _, n := range numbers {
			pad.Part(nil, at, n)
		}
	}
	lists := torn(&mix)
	lists["that are well"] = mix.rows(4, 16)
	lists["a million nils"] = make([][]byte, 1<<20)
	for _, shards := range lists {
		for _, n := range numbers {
			pad.Join(shards, n)
		}
	}
}
