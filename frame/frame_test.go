package frame_test

import (
	"bytes"
	"encoding/binary"
	"encoding/hex"
	"hash/crc32"
	"math"
	"slices"
	"testing"

	"hypocaust/frame"
)

// mixer tells numbers that look mixed, the same ones each time.
type mixer uint64

func (m *mixer) below(n int) int {
	*m = *m*6364136223846793005 + 1442695040888963407
	return int(uint64(*m) >> 33 % uint64(n))
}

func (m *mixer) bytes(n int) []byte {
	b := make([]byte, n)
	for i := range b {
		b[i] = byte(m.below(256))
	}
	return b
}

// ids are numbers that may be an id, with the ends and the edges of each byte.
func ids() []int {
	return []int{0, 1, 2, 39, 40, 127, 128, 183, 255, 256, 1<<16 - 1, 1 << 16, 1<<24 - 1, 1 << 24, 1<<31 - 1, 1 << 31, 1<<31 + 1, 1<<32 - 2, 1<<32 - 1}
}

// noIDs are numbers that are none.
func noIDs() []int {
	return []int{math.MinInt, math.MinInt + 1, -1 << 62, -1 << 32, -1<<32 + 5, -1 << 31, -256, -2, -1, 1 << 32, 1<<32 + 1, 1<<32 + 5, 1<<33 - 1, 1 << 40, 1 << 62, math.MaxInt - 1, math.MaxInt}
}

// sealed makes 96 bytes with a check that is right, whatever the rest says: the library's CRC-32C of the head and of as many bytes as data are.
func sealed(head [8]byte, data, tail []byte) []byte {
	both := append(slices.Clone(head[:]), data...)
	b := binary.BigEndian.AppendUint32(slices.Clone(head[:]), crc32.Checksum(both, crc32.MakeTable(crc32.Castagnoli)))
	b = append(b, data...)
	b = append(b, tail...)
	return append(b, make([]byte, max(96-len(b), 0))...)
}

// headOf tells the first eight bytes of a frame.
func headOf(id, length int) [8]byte {
	return [8]byte{183, byte(length), 0, 0, byte(id >> 24), byte(id >> 16), byte(id >> 8), byte(id)}
}

// model makes a frame by the chapter's words.
func model(id int, data []byte) []byte {
	return sealed(headOf(id, len(data)), data, nil)
}

// put puts what may be put.
func put(t *testing.T, id int, data []byte) []byte {
	t.Helper()
	b, ok := frame.Put(id, data)
	if !ok {
		t.Fatalf("Put(%d, %v) = false", id, data)
	}
	return b
}

// is tells whether b is the frame of id and data, and of no other id.
func is(t *testing.T, name string, b []byte, id int, data []byte) {
	t.Helper()
	gotID, got, ok := frame.Take(b)
	if !ok || gotID != id || !bytes.Equal(got, data) {
		t.Fatalf("%s: Take(%x) = %d, %x, %v, want %d, %x, true", name, b, gotID, got, ok, id, data)
	}
	held, ok := frame.Holds(b, id)
	if !ok || !bytes.Equal(held, data) {
		t.Fatalf("%s: Holds(%x, %d) = %x, %v, want %x, true", name, b, id, held, ok, data)
	}
}

// isNone tells whether b is no frame, whatever id is asked for.
func isNone(t *testing.T, name string, b []byte, asked ...int) {
	t.Helper()
	id, data, ok := frame.Take(b)
	if ok || id != 0 || len(data) != 0 {
		t.Fatalf("%s: Take(%x) = %d, %x, %v, want 0, none, false", name, b, id, data, ok)
	}
	for _, id := range append(asked, 0, -1) {
		holdsNot(t, name, b, id)
	}
}

// holdsNot tells whether b is no frame of id.
func holdsNot(t *testing.T, name string, b []byte, id int) {
	t.Helper()
	data, ok := frame.Holds(b, id)
	if ok || len(data) != 0 {
		t.Fatalf("%s: Holds(%x, %d) = %x, %v, want none, false", name, b, id, data, ok)
	}
}

// Promise 8.1: Put, Take, Holds.

func TestFramesWrittenDown(t *testing.T) {
	for _, x := range []struct {
		id   int
		data []byte
		want string // noughts behind it
	}{
		{0, nil, "b700000000000000cb064dc7"},
		{0, []byte{0}, "b7010000000000000ccd6a14"},
		{1, nil, "b700000000000001396dcec4"},
		{1<<32 - 1, nil, "b7000000ffffffff7c9ef9ff"},
		{0x01020304, []byte{9}, "b70100000102030457ad5c5a09"},
		{1<<31 - 1, []byte("hypocaust"), "b70900007fffffff10e37f1b6879706f6361757374"},
		{1 << 31, []byte("hypocaust"), "b709000080000000534725006879706f6361757374"},
		{40, []byte{0, 1, 2, 3, 4, 5, 6, 7, 8, 9, 10, 11, 12, 13, 14, 15}, "b710000000000028eae9c100000102030405060708090a0b0c0d0e0f"},
		{0, make([]byte, 64), "b7400000000000000cb80e77"},
		{1<<32 - 1, bytes.Repeat([]byte{255}, 64), "b7400000ffffffff074f1261" + hex.EncodeToString(bytes.Repeat([]byte{255}, 64))},
	} {
		want, err := hex.DecodeString(x.want)
		if err != nil {
			t.Fatal(err)
		}
		want = append(want, make([]byte, 96-len(want))...)
		got := put(t, x.id, x.data)
		if !bytes.Equal(got, want) {
			t.Errorf("Put(%d, %x) = %x, want %x", x.id, x.data, got, want)
		}
		is(t, "written down", want, x.id, x.data)
	}
}

func TestPutIsTheModel(t *testing.T) {
	mix := mixer(1)
	for n := range 65 {
		for _, id := range append(ids(), mix.below(1<<31), 1<<31+mix.below(1<<31)) {
			for _, data := range [][]byte{mix.bytes(n), make([]byte, n), bytes.Repeat([]byte{183}, n)} {
				got, want := put(t, id, data), model(id, data)
				if !bytes.Equal(got, want) {
					t.Fatalf("Put(%d, %x) = %x, want %x", id, data, got, want)
				}
				is(t, "model", want, id, data)
			}
		}
	}
}

func TestPutRefuses(t *testing.T) {
	refused := func(id int, data []byte) {
		t.Helper()
		b, ok := frame.Put(id, data)
		if ok || len(b) != 0 {
			t.Fatalf("Put(%d, %d bytes) = %d bytes, %v, want none, false", id, len(data), len(b), ok)
		}
	}
	for _, id := range noIDs() {
		for _, n := range []int{0, 1, 16, 64, 65} {
			refused(id, make([]byte, n))
		}
		refused(id, nil)
	}
	for _, n := range []int{65, 66, 84, 85, 96, 127, 128, 255, 256, 257, 256 + 16, 256 + 64, 1 << 16} {
		for _, id := range ids() {
			refused(id, make([]byte, n))
		}
	}
}

func TestNilIsEmpty(t *testing.T) {
	for _, id := range ids() {
		if a, b := put(t, id, nil), put(t, id, []byte{}); !bytes.Equal(a, b) {
			t.Fatalf("Put(%d) of nil = %x, of none = %x", id, a, b)
		}
	}
	isNone(t, "nil", nil)
	isNone(t, "empty", []byte{})
}

func TestTakeOfOtherLengths(t *testing.T) {
	for _, n := range []int{0, 1, 16, 63, 64} {
		b := model(7, bytes.Repeat([]byte{3}, n))
		for short := range 96 {
			isNone(t, "short", b[:short], 7)
			isNone(t, "short, with noughts behind it in its room", b[:short:short], 7)
		}
		for _, more := range []int{1, 2, 4, 32, 96, 160, 1 << 16} {
			isNone(t, "long", append(slices.Clone(b), make([]byte, more)...), 7)
			isNone(t, "long ahead", append(make([]byte, more), b...), 7)
		}
	}
}

func TestTakeOfOneByteAgain(t *testing.T) {
	for _, n := range []int{0, 1, 15, 16, 64} {
		b := model(99, bytes.Repeat([]byte{200}, n))
		for at := range b {
			for by := 1; by < 256; by++ {
				b[at] ^= byte(by)
				isNone(t, "one byte another", b, 99)
				b[at] ^= byte(by)
			}
		}
		is(t, "all as they were", b, 99, bytes.Repeat([]byte{200}, n))
	}
}

// What the check can't tell: bytes that are under no check, or under one that is right.
func TestTakeWithARightCheck(t *testing.T) {
	data := bytes.Repeat([]byte{5}, 16)
	head := headOf(300, 16)
	is(t, "as it should be", sealed(head, data, nil), 300, data)
	for at := range 4 {
		for by := 1; by < 256; by++ {
			h := head
			h[at] ^= byte(by)
			if at == 1 && h[1] <= 64 { // such a length is one; the check is of as many bytes
				continue
			}
			isNone(t, "another head", sealed(h, data, nil), 300)
		}
	}
	for at := range 96 - 28 {
		tail := make([]byte, 96-28)
		for _, c := range []byte{1, 128, 183, 255} {
			tail[at] = c
			isNone(t, "no noughts behind", sealed(head, data, tail), 300)
		}
	}
}

func TestTakeOfLengths(t *testing.T) {
	mix := mixer(2)
	for n := range 256 {
		fits := min(n, 84)
		for _, data := range [][]byte{make([]byte, fits), bytes.Repeat([]byte{9}, fits), mix.bytes(fits)} {
			b := sealed(headOf(4, n), data, nil)
			if n <= 64 {
				is(t, "of a length", b, 4, data)
			} else {
				isNone(t, "too long", b, 4)
			}
		}
	}
	// The check of a frame of another length: of more noughts, of fewer.
	for n := range 65 {
		for told := range 65 {
			if n == told {
				continue
			}
			both := sealed(headOf(4, told), make([]byte, n), nil)
			isNone(t, "the check is of other bytes", both, 4)
		}
	}
}

func TestTakeOfOtherChecks(t *testing.T) {
	data := []byte("one blob of some bytes")
	b := model(12, data)
	sum := binary.BigEndian.Uint32(b[8:])
	whole := crc32.MakeTable(crc32.Castagnoli)
	for name, other := range map[string]uint32{
		"0":              0,
		"all ones":       math.MaxUint32,
		"one more":       sum + 1,
		"all turned":     ^sum,
		"of the data":    crc32.Checksum(data, whole),
		"of the head":    crc32.Checksum(b[:8], whole),
		"of all":         crc32.Checksum(append(slices.Clone(b[:8]), b[12:]...), whole),
		"data first":     crc32.Checksum(append(slices.Clone(data), b[:8]...), whole),
		"another":        crc32.ChecksumIEEE(append(slices.Clone(b[:8]), data...)),
		"lowest first":   sum>>24 | sum>>8&0xff00 | sum<<8&0xff0000 | sum<<24,
		"of the id only": crc32.Checksum(append(slices.Clone(b[4:8]), data...), whole),
	} {
		c := slices.Clone(b)
		binary.BigEndian.PutUint32(c[8:], other)
		isNone(t, name, c, 12)
	}
}

func TestHoldsItsIDAlone(t *testing.T) {
	for _, id := range ids() {
		for _, n := range []int{0, 1, 64} {
			b := put(t, id, bytes.Repeat([]byte{byte(n)}, n))
			for _, other := range slices.Concat(ids(), noIDs(), []int{id + 1, id - 1, id ^ 1<<31, id ^ 1<<32, id + 1<<32, id - 1<<32, ^id, -id, id << 8, id >> 8}) {
				if other != id {
					holdsNot(t, "another id", b, other)
				}
			}
			if held, ok := frame.Holds(b, id); !ok || len(held) != n {
				t.Fatalf("Holds of id %d = %x, %v", id, held, ok)
			}
		}
	}
}

func TestExamples(t *testing.T) {
	isNone(t, "96 of 0", make([]byte, 96))
	isNone(t, "96 of 255", bytes.Repeat([]byte{255}, 96), 1<<32-1)
	isNone(t, "96 of 183", bytes.Repeat([]byte{183}, 96), 0xb7b7b7b7)
}

func TestHandedInStays(t *testing.T) {
	mix := mixer(3)
	for n := range 65 {
		room := mix.bytes(128)
		was := slices.Clone(room)
		b := put(t, 17, room[:n])
		if !bytes.Equal(room, was) {
			t.Fatalf("Put of %d bytes changed what was handed in, or its spare room", n)
		}
		wide := append(slices.Clone(b), mix.bytes(64)...)
		was = slices.Clone(wide)
		frame.Take(wide[:96])
		frame.Take(wide[:95])
		frame.Take(wide)
		frame.Holds(wide[:96], 17)
		frame.Holds(wide[:96], 18)
		if !bytes.Equal(wide, was) {
			t.Fatalf("Take or Holds of a frame of %d bytes changed what was handed in, or its spare room", n)
		}
	}
}

// smear writes over all of b, its spare room too.
func smear(b []byte) {
	all := b[:cap(b)]
	for i := range all {
		all[i] ^= 255
	}
}

func TestAnswersAreNewMemory(t *testing.T) {
	mix := mixer(4)
	for n := range 65 {
		data := mix.bytes(n)
		want := model(21, data)
		mine := slices.Clone(data)
		b, other := put(t, 21, mine), put(t, 21, mine)
		smear(mine)
		if !bytes.Equal(b, want) {
			t.Fatalf("the frame of %d bytes changed with what was handed in", n)
		}
		_, taken, _ := frame.Take(b)
		held, _ := frame.Holds(b, 21)
		again, _ := frame.Holds(b, 21)
		smear(taken)
		if !bytes.Equal(b, want) || !bytes.Equal(held, data) {
			t.Fatalf("what Take told of %d bytes shares memory", n)
		}
		smear(held)
		if !bytes.Equal(b, want) || !bytes.Equal(again, data) {
			t.Fatalf("what Holds told of %d bytes shares memory", n)
		}
		smear(b)
		if !bytes.Equal(other, want) || !bytes.Equal(again, data) {
			t.Fatalf("a frame of %d bytes shares memory", n)
		}
	}
}

// Promise 8.2: a frame is whole, or is none (with W3: whatever rots or is torn).

// wholes are frames of many kinds, by which others are told from them.
func wholes(t *testing.T) [][]byte {
	mix := mixer(5)
	l := [][]byte{put(t, 0, nil), put(t, 1, nil), put(t, 1, make([]byte, 64)), put(t, 1, bytes.Repeat([]byte{255}, 64)), put(t, 2, make([]byte, 16)), put(t, 1<<32-1, make([]byte, 16))}
	for _, n := range []int{1, 2, 15, 16, 16, 33, 63, 64, 64, 64} {
		l = append(l, put(t, mix.below(1000), mix.bytes(n)))
	}
	return l
}

func TestTwoBitsTurned(t *testing.T) {
	all := wholes(t)
	for _, b := range [][]byte{all[0], all[4], all[13], all[14]} {
		was := slices.Clone(b)
		for i := range 96 * 8 {
			b[i/8] ^= 1 << (i % 8)
			for j := range i {
				b[j/8] ^= 1 << (j % 8)
				if id, data, ok := frame.Take(b); ok || id != 0 || len(data) != 0 {
					t.Fatalf("bits %d and %d turned: Take = %d, %x, %v", j, i, id, data, ok)
				}
				b[j/8] ^= 1 << (j % 8)
			}
			b[i/8] ^= 1 << (i % 8)
		}
		if !bytes.Equal(b, was) {
			t.Fatal("the trial left a bit turned")
		}
	}
}

func TestTorn(t *testing.T) {
	all := append(wholes(t), make([]byte, 96), bytes.Repeat([]byte{255}, 96))
	for _, old := range all {
		for _, next := range all {
			for torn := range 97 {
				b := append(slices.Clone(next[:torn]), old[torn:]...)
				if bytes.Equal(b, old) || bytes.Equal(b, next) {
					continue
				}
				isNone(t, "torn", b, 1)
			}
		}
	}
}

func TestShifted(t *testing.T) {
	for _, b := range wholes(t) {
		for by := 1; by < 96; by++ {
			isNone(t, "turned round", append(slices.Clone(b[by:]), b[:by]...))
			isNone(t, "pushed on", append(make([]byte, by), b[:96-by]...))
			isNone(t, "pushed back", append(slices.Clone(b[by:]), make([]byte, by)...))
		}
	}
}

func TestSwapped(t *testing.T) {
	for _, b := range wholes(t) {
		for i := range b {
			for j := range i {
				if b[i] == b[j] {
					continue
				}
				c := slices.Clone(b)
				c[i], c[j] = c[j], c[i]
				isNone(t, "two bytes swapped", c)
			}
		}
	}
}

// Promise 8.2 with W7: what was put is told as it was.

func TestThereAndBack(t *testing.T) {
	mix := mixer(6)
	for range 5000 {
		id, data := mix.below(1<<31)<<1|mix.below(2), mix.bytes(mix.below(65))
		b := put(t, id, data)
		is(t, "there and back", b, id, data)
		if again := put(t, id, data); !bytes.Equal(again, b) {
			t.Fatalf("Put(%d, %x) = %x, then %x", id, data, b, again)
		}
	}
}

func TestUnlikeFramesOfUnlikeThings(t *testing.T) {
	var seen [][]byte
	for _, id := range ids() {
		for n := range 65 {
			seen = append(seen, put(t, id, make([]byte, n)))
		}
	}
	slices.SortFunc(seen, bytes.Compare)
	if n := len(slices.CompactFunc(seen, bytes.Equal)); n != len(ids())*65 {
		t.Errorf("%d frames are unlike, want %d", n, len(ids())*65)
	}
}

// isFrame tells by the chapter's words, part by part, whether b is a frame.
func isFrame(b []byte) bool {
	if len(b) != 96 || b[0] != 183 || b[1] > 64 || b[2] != 0 || b[3] != 0 {
		return false
	}
	end := 12 + int(b[1])
	for _, c := range b[end:] {
		if c != 0 {
			return false
		}
	}
	both := append(slices.Clone(b[:8]), b[12:end]...)
	return binary.BigEndian.Uint32(b[8:]) == crc32.Checksum(both, crc32.MakeTable(crc32.Castagnoli))
}

// W8 and W3: whatever bytes are read are no frame, or what they say.
func TestMixedBytes(t *testing.T) {
	mix := mixer(7)
	whole := 0
	for range 60000 {
		head := headOf(mix.below(1<<31), mix.below(65))
		data := mix.bytes(int(head[1]))
		tail := make([]byte, 84-len(data))
		switch mix.below(12) {
		case 0:
			head[0] = byte(mix.below(256))
		case 1:
			head[1] = byte(mix.below(256))
		case 2:
			head[2+mix.below(2)] = byte(mix.below(256))
		case 3:
			data = mix.bytes(mix.below(85))
			tail = nil
		case 4:
			if len(tail) > 0 {
				tail[mix.below(len(tail))] = byte(mix.below(3))
			}
		}
		b := sealed(head, data, tail)
		if mix.below(4) == 0 {
			b[mix.below(96)] ^= byte(mix.below(256))
		}
		if !isFrame(b) {
			isNone(t, "mixed", b, int(binary.BigEndian.Uint32(b[4:])))
			continue
		}
		whole++
		is(t, "mixed", b, int(binary.BigEndian.Uint32(b[4:])), b[12:12+int(b[1])])
	}
	if whole < 10000 || whole > 50000 {
		t.Errorf("%d of 60000 were frames: the trial tells too little", whole)
	}
}

// Promise 8.3: no call panics.

func TestNoCallPanics(t *testing.T) {
	mix := mixer(8)
	for n := range 300 {
		rows := [][]byte{make([]byte, n), bytes.Repeat([]byte{255}, n), bytes.Repeat([]byte{183}, n), mix.bytes(n)}
		for _, b := range rows {
			for _, id := range append(noIDs(), ids()...) {
				_, ok := frame.Put(id, b)
				if want := id >= 0 && id < 1<<32 && n <= 64; ok != want {
					t.Fatalf("Put(%d, %d bytes): %v, want %v", id, n, ok, want)
				}
				holdsNot(t, "any bytes", b, id)
			}
			isNone(t, "any bytes", b)
			for length := range 256 {
				if n < 2 {
					break
				}
				b[0], b[1] = 183, byte(length)
				frame.Take(b)
				frame.Holds(b, length)
			}
		}
	}
}
