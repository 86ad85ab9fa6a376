package bay_test

import (
	"bytes"
	"encoding/binary"
	"hash/crc32"
	"math"
	"slices"
	"testing"

	"hypocaust/api"
	"hypocaust/bay"
	"hypocaust/disk"
)

// mixer tells numbers that look mixed, the same ones each time.
type mixer uint64

func (m *mixer) below(n int) int {
	*m = *m*6364136223846793005 + 1442695040888963407
	return int(uint64(*m) >> 33 % uint64(n))
}

func (m *mixer) bytes(n int) []byte {
	b := make([]byte, n)
	for i := range b {
		b[i] = byte(m.below(256))
	}
	return b
}

// chunk makes the 96 bytes of a chunk by the words of chapter 8, with the library's CRC-32C.
func chunk(id int, data []byte) []byte {
	head := []byte{183, byte(len(data)), 0, 0, byte(id >> 24), byte(id >> 16), byte(id >> 8), byte(id)}
	both := append(slices.Clone(head), data...)
	b := binary.BigEndian.AppendUint32(head, crc32.Checksum(both, crc32.MakeTable(crc32.Castagnoli)))
	b = append(b, data...)
	return append(b, make([]byte, 96-len(b))...)
}

// strange are numbers of slots that no Disk has.
func strange() []int {
	return []int{math.MinInt, math.MinInt + 1, -1 << 32, -64, -2, -1, 64, 65, 96, 127, 128, 255, 256, 1 << 16, 1 << 32, 1 << 62, math.MaxInt - 1, math.MaxInt}
}

// ids are numbers that may be an id, with the ends and the edges of each byte.
func ids() []int {
	return []int{0, 1, 2, 40, 183, 255, 256, 1<<16 - 1, 1 << 16, 1<<24 - 1, 1 << 24, 1<<31 - 1, 1 << 31, 1<<32 - 2, 1<<32 - 1}
}

// noIDs are numbers that are none.
func noIDs() []int {
	return []int{math.MinInt, math.MinInt + 1, -1 << 32, -1<<32 + 5, -1 << 31, -256, -2, -1, 1 << 32, 1<<32 + 1, 1<<32 + 5, 1 << 40, 1 << 62, math.MaxInt}
}

// spent makes a Fuse that is dead.
func spent() *disk.Fuse {
	f := disk.NewFuse(1)
	f.Spend()
	return f
}

// held makes a Bay of d with all slots used.
func held(d *disk.Disk) *bay.Bay {
	b := bay.New(d)
	for slot := range d.Slots() {
		b.Hold(slot)
	}
	return b
}

// has tells whether of count slots just these are used.
func has(t *testing.T, name string, b *bay.Bay, count int, used ...int) {
	t.Helper()
	if got := b.Used(); !slices.Equal(got, used) {
		t.Fatalf("%s: Used = %v, want %v", name, got, used)
	}
	if got := b.Free(); got != count-len(used) {
		t.Fatalf("%s: Free = %d, want %d", name, got, count-len(used))
	}
}

// takes tells whether Take answers slot.
func takes(t *testing.T, name string, b *bay.Bay, want int) {
	t.Helper()
	if slot, ok := b.Take(); slot != want || !ok {
		t.Fatalf("%s: Take = %d, %v, want %d, true", name, slot, ok, want)
	}
}

// isFull tells whether Take is false.
func isFull(t *testing.T, name string, b *bay.Bay) {
	t.Helper()
	if slot, ok := b.Take(); slot != 0 || ok {
		t.Fatalf("%s: Take = %d, %v, want 0, false", name, slot, ok)
	}
}

// wrote writes what may be written.
func wrote(t *testing.T, b *bay.Bay, slot, id int, data []byte) {
	t.Helper()
	if e := b.Write(slot, id, data); e != api.OK {
		t.Fatalf("Write(%d, %d, %x): %v", slot, id, data, e)
	}
}

// refuses tells whether Write answers want.
func refuses(t *testing.T, name string, b *bay.Bay, slot, id int, data []byte, want api.Errno) {
	t.Helper()
	if e := b.Write(slot, id, data); e != want {
		t.Fatalf("%s: Write(%d, %d, %d bytes) = %v, want %v", name, slot, id, len(data), e, want)
	}
}

// reads tells whether Read answers data.
func reads(t *testing.T, name string, b *bay.Bay, slot, id int, want []byte) {
	t.Helper()
	if got, e := b.Read(slot, id); e != api.OK || !bytes.Equal(got, want) {
		t.Fatalf("%s: Read(%d, %d) = %x, %v, want %x, OK", name, slot, id, got, e, want)
	}
}

// readsNot tells whether Read answers want, and nothing beside it.
func readsNot(t *testing.T, name string, b *bay.Bay, slot, id int, want api.Errno) {
	t.Helper()
	if got, e := b.Read(slot, id); e != want || len(got) != 0 {
		t.Fatalf("%s: Read(%d, %d) = %x, %v, want nothing, %v", name, slot, id, got, e, want)
	}
}

// scans tells whether Scan answers just these.
func scans(t *testing.T, name string, b *bay.Bay, want ...api.Chunk) {
	t.Helper()
	if got := b.Scan(); !slices.Equal(got, want) {
		t.Fatalf("%s: Scan = %v, want %v", name, got, want)
	}
}

// Promise 9.1: which slots are used.

func TestNewUsesNone(t *testing.T) {
	for _, x := range []struct{ told, count int }{{math.MinInt, 0}, {-1, 0}, {0, 0}, {1, 1}, {2, 2}, {24, 24}, {63, 63}, {64, 64}, {65, 64}, {96, 64}, {math.MaxInt, 64}} {
		d := disk.New(x.told, nil)
		b := bay.New(d)
		has(t, "New", b, x.count)
		for slot := range x.count {
			takes(t, "New", b, slot)
		}
		isFull(t, "all taken", b)
		isFull(t, "all taken, again", b)
		if b.Free() != 0 || len(b.Used()) != x.count {
			t.Errorf("of %d: Free = %d, Used = %v", x.count, b.Free(), b.Used())
		}
	}
}

func TestNewOfADiskWithChunks(t *testing.T) {
	d := disk.New(3, nil)
	for slot := range 3 {
		d.Write(slot, chunk(slot, []byte{7}))
	}
	has(t, "of a Disk with chunks", bay.New(d), 3)
	d.Sync()
	has(t, "of a Disk with synced chunks", bay.New(d), 3)
	d.Fail()
	has(t, "of a Disk that is not live", bay.New(d), 3)
}

func TestExample(t *testing.T) {
	b := bay.New(disk.New(4, nil))
	takes(t, "first", b, 0)
	takes(t, "second", b, 1)
	if !b.Give(0) {
		t.Fatal("Give(0) = false")
	}
	takes(t, "what was given back", b, 0)
	takes(t, "third", b, 2)
	has(t, "behind them", b, 4, 0, 1, 2)
}

// Of each set of slots that may be used, Take finds the least that is not.
func TestTakeIsTheLeast(t *testing.T) {
	const count = 7
	for set := range 1 << count {
		b := bay.New(disk.New(count, nil))
		var used, not []int
		for slot := count - 1; slot >= 0; slot-- { // the order in which they are held tells nothing
			if set>>slot&1 == 0 {
				not = append(not, slot)
				continue
			}
			used = append(used, slot)
			if !b.Hold(slot) {
				t.Fatalf("set %b: Hold(%d) = false", set, slot)
			}
		}
		slices.Reverse(used)
		slices.Reverse(not)
		has(t, "held", b, count, used...)
		for _, slot := range not {
			takes(t, "what is left", b, slot)
			used = append(used, slot)
			slices.Sort(used)
			has(t, "taken", b, count, used...)
		}
		isFull(t, "all taken", b)
		has(t, "behind a false", b, count, used...)
	}
}

func TestHoldAndGive(t *testing.T) {
	for _, count := range []int{1, 2, 5, 63, 64} {
		for slot := range count {
			b := bay.New(disk.New(count, nil))
			for range 2 {
				if b.Give(slot) {
					t.Fatalf("Give(%d) of none used = true", slot)
				}
				has(t, "given, not used", b, count)
				if !b.Hold(slot) {
					t.Fatalf("Hold(%d) = false", slot)
				}
				has(t, "held", b, count, slot)
				if b.Hold(slot) {
					t.Fatalf("Hold(%d) once more = true", slot)
				}
				has(t, "held once more", b, count, slot)
				if !b.Give(slot) {
					t.Fatalf("Give(%d) = false", slot)
				}
				has(t, "given", b, count)
			}
		}
	}
}

func TestHoldAndGiveOfNone(t *testing.T) {
	for _, count := range []int{0, 1, 2, 63, 64} {
		for _, b := range []*bay.Bay{bay.New(disk.New(count, nil)), held(disk.New(count, nil))} {
			used := b.Used()
			for _, slot := range append(strange(), count, count+1) {
				if b.Hold(slot) {
					t.Fatalf("of %d: Hold(%d) = true", count, slot)
				}
				if b.Give(slot) {
					t.Fatalf("of %d: Give(%d) = true", count, slot)
				}
				has(t, "of none", b, count, used...)
			}
		}
	}
}

// That is not on the Disk: it is neither read from there, nor written there, nor lost with it.
func TestUsedIsNotOnTheDisk(t *testing.T) {
	f := disk.NewFuse(9)
	d := disk.New(5, f)
	b := bay.New(d)
	takes(t, "first", b, 0)
	b.Hold(3)
	b.Give(0)
	if d.Pending() != 0 || f.Dead() {
		t.Fatalf("%d writes pending", d.Pending())
	}
	for slot := range 5 {
		if got, e := d.Read(slot); e != api.OK || !bytes.Equal(got, make([]byte, 96)) {
			t.Fatalf("slot %d is %x, %v", slot, got, e)
		}
	}
	for range 9 {
		if !f.Spend() {
			t.Fatal("power was spent")
		}
	}
	for _, x := range []struct {
		name   string
		befall func()
	}{
		{"dead", func() {}},
		{"rotted", func() { d.Rot(3, 0, 255) }},
		{"failed", d.Fail},
		{"replaced", d.Replace},
		{"written", func() { f.Set(0); d.Write(1, chunk(4, nil)) }},
		{"synced", func() { d.Sync() }},
		{"written over", func() { d.Write(1, make([]byte, 96)) }},
		{"crashed", func() { d.Crash(0, 0) }},
	} {
		x.befall()
		name := x.name
		has(t, name, b, 5, 3)
		takes(t, name, b, 0)
		takes(t, name, b, 1)
		if !b.Hold(4) || !b.Give(4) || !b.Give(1) || !b.Give(0) || b.Give(0) || b.Hold(3) {
			t.Fatalf("%s: Hold or Give is another", name)
		}
		has(t, name, b, 5, 3)
	}
}

func TestSlotsOfADiskThatIsNotLive(t *testing.T) {
	d := disk.New(3, spent())
	d.Fail()
	b := bay.New(d)
	for slot := range 3 {
		takes(t, "not live", b, slot)
	}
	isFull(t, "not live", b)
	if !b.Give(1) || !b.Hold(1) {
		t.Error("Give or Hold of a Disk that is not live = false")
	}
	has(t, "not live", b, 3, 0, 1, 2)
}

func TestReadWriteAndScanUseNone(t *testing.T) {
	b := bay.New(disk.New(3, nil))
	b.Hold(1)
	for slot := range 4 {
		b.Write(slot, 5, []byte{1})
		b.Read(slot, 5)
		b.Scan()
		has(t, "behind them", b, 3, 1)
	}
}

func TestBaysAreApart(t *testing.T) {
	d := disk.New(3, nil)
	a, b := bay.New(d), bay.New(d)
	takes(t, "one", a, 0)
	a.Hold(2)
	has(t, "the other", b, 3)
	takes(t, "the other", b, 0)
	has(t, "one", a, 3, 0, 2)
	wrote(t, a, 0, 9, []byte{1, 2})
	reads(t, "of one Disk", b, 0, 9, []byte{1, 2})
	refuses(t, "not used there", b, 2, 9, nil, api.ErrArg)
}

func TestUsedIsNewMemory(t *testing.T) {
	b := bay.New(disk.New(6, nil))
	b.Hold(1)
	b.Hold(4)
	one, other := b.Used(), b.Used()
	all := one[:cap(one)]
	for i := range all {
		all[i] = 3
	}
	has(t, "behind a change of what was answered", b, 6, 1, 4)
	if !slices.Equal(other, []int{1, 4}) {
		t.Errorf("what was answered shares memory: %v", other)
	}
	takes(t, "behind it", b, 0)
}

func TestDiskIsTheOneHandedIn(t *testing.T) {
	for _, d := range []*disk.Disk{disk.New(0, nil), disk.New(3, nil), disk.New(64, spent())} {
		b := bay.New(d)
		if b.Disk() != d {
			t.Fatal("Disk is another")
		}
		d.Fail()
		b.Take()
		if b.Disk() != d {
			t.Fatal("Disk is another, of a Disk that is not live")
		}
	}
}

// W4: a slot is taken by one at a time, whatever is asked in whatever order.
func TestSlotScripts(t *testing.T) {
	for script := range 200 {
		mix := mixer(script)
		count := []int{0, 1, 2, 3, 5, 8, 24, 63, 64}[script%9]
		b := bay.New(disk.New(count, nil))
		var used []int // rising
		for range 400 {
			slot := mix.below(count+4) - 2
			at, is := slices.BinarySearch(used, slot)
			exists := slot >= 0 && slot < count
			switch mix.below(5) {
			case 0, 1:
				least := 0
				for least < len(used) && used[least] == least {
					least++
				}
				if least == count {
					isFull(t, "script", b)
					break
				}
				takes(t, "script", b, least)
				used = slices.Insert(used, least, least)
			case 2:
				if got := b.Hold(slot); got != (exists && !is) {
					t.Fatalf("Hold(%d) of used %v = %v", slot, used, got)
				}
				if exists && !is {
					used = slices.Insert(used, at, slot)
				}
			default:
				if got := b.Give(slot); got != is {
					t.Fatalf("Give(%d) of used %v = %v", slot, used, got)
				}
				if is {
					used = slices.Delete(used, at, at+1)
				}
			}
			has(t, "script", b, count, used...)
		}
	}
}

// Promise 9.2: Write.

func TestWriteIsAFrame(t *testing.T) {
	mix := mixer(1)
	d := disk.New(4, nil)
	b := held(d)
	writes := 0
	for n := range 65 {
		for _, id := range append(ids(), mix.below(1<<31)) {
			slot, data := mix.below(4), mix.bytes(n)
			wrote(t, b, slot, id, data)
			writes++
			if got, e := d.Read(slot); e != api.OK || !bytes.Equal(got, chunk(id, data)) {
				t.Fatalf("Write(%d, %d, %x) made %x, %v", slot, id, data, got, e)
			}
			if d.Pending() != writes {
				t.Fatalf("%d writes pending, want %d", d.Pending(), writes)
			}
			reads(t, "at once", b, slot, id, data)
		}
	}
}

// What Write refuses changes nothing, and spends no power.
func TestWriteRefuses(t *testing.T) {
	f := disk.NewFuse(4)
	d := disk.New(3, f)
	b := bay.New(d)
	b.Hold(1)
	wrote(t, b, 1, 5, []byte{1, 2, 3})
	refused := func(name string, slot, id int, data []byte) {
		t.Helper()
		refuses(t, name, b, slot, id, data, api.ErrArg)
		if d.Pending() != 1 {
			t.Fatalf("%s: %d writes pending, want 1", name, d.Pending())
		}
	}
	for _, slot := range append(strange(), 3, 4) {
		refused("no slot", slot, 5, []byte{1})
		refused("no slot, no id", slot, -1, []byte{1})
		refused("no slot, too much data", slot, 5, make([]byte, 65))
	}
	for _, slot := range []int{0, 2} {
		for _, id := range append(ids(), noIDs()...) {
			refused("not used", slot, id, nil)
			refused("not used", slot, id, make([]byte, 64))
		}
	}
	for _, id := range noIDs() {
		for _, n := range []int{0, 1, 16, 64, 65} {
			refused("no id", 1, id, make([]byte, n))
		}
	}
	for _, n := range []int{65, 66, 84, 96, 128, 255, 256, 272, 320, 1 << 16} {
		for _, id := range ids() {
			refused("too much data", 1, id, make([]byte, n))
		}
	}
	reads(t, "behind them", b, 1, 5, []byte{1, 2, 3})
	scans(t, "behind them", b, api.Chunk{Slot: 1, ID: 5, N: 3})
	has(t, "behind them", b, 3, 1)
	for i := range 3 {
		wrote(t, b, 1, i, nil)
	}
	refuses(t, "behind four writes", b, 1, 5, nil, api.ErrDead)
}

func TestWriteToWhatWasGivenBack(t *testing.T) {
	b := bay.New(disk.New(2, nil))
	takes(t, "first", b, 0)
	wrote(t, b, 0, 1, []byte{1})
	b.Give(0)
	refuses(t, "given back", b, 0, 2, []byte{2}, api.ErrArg)
	reads(t, "given back", b, 0, 1, []byte{1})
	takes(t, "once more", b, 0)
	reads(t, "taken once more", b, 0, 1, []byte{1})
	wrote(t, b, 0, 2, []byte{2})
	reads(t, "written over", b, 0, 2, []byte{2})
	readsNot(t, "written over", b, 0, 1, api.ErrNone)
}

// Where several errors apply the first in the order of the chapter's words is answered.
func TestWriteErrorsInOrder(t *testing.T) {
	for _, x := range []struct {
		live, power          bool
		unused, noID, badLen api.Errno
		good                 api.Errno
	}{
		{true, true, api.ErrArg, api.ErrArg, api.ErrArg, api.OK},
		{true, false, api.ErrArg, api.ErrArg, api.ErrArg, api.ErrDead},
		{false, true, api.ErrArg, api.ErrArg, api.ErrArg, api.ErrGone},
		{false, false, api.ErrArg, api.ErrArg, api.ErrArg, api.ErrGone},
	} {
		f := disk.NewFuse(0)
		if !x.power {
			f = spent()
		}
		d := disk.New(2, f)
		b := bay.New(d)
		b.Hold(1)
		if !x.live {
			d.Fail()
		}
		refuses(t, "not used", b, 0, 3, []byte{1}, x.unused)
		refuses(t, "no slot", b, 2, 3, []byte{1}, x.unused)
		refuses(t, "no slot", b, -1, 3, []byte{1}, x.unused)
		refuses(t, "no id", b, 1, -1, []byte{1}, x.noID)
		refuses(t, "too much data", b, 1, 3, make([]byte, 65), x.badLen)
		refuses(t, "what may be written", b, 1, 3, []byte{1}, x.good)
		if d.Replace(); x.good != api.OK {
			readsNot(t, "what was refused", b, 1, 3, api.ErrNone)
		}
	}
}

// One write of power is one Write, and nothing else needs any.
func TestWriteSpendsOne(t *testing.T) {
	for k := 1; k < 20; k++ {
		f := disk.NewFuse(k)
		d := disk.New(3, f)
		b := held(d)
		for i := range k {
			b.Scan()
			b.Give(2)
			b.Take()
			readsNot(t, "another id", b, i%3, 1000, api.ErrNone)
			if f.Dead() {
				t.Fatalf("Fuse of %d: dead at %d", k, i)
			}
			wrote(t, b, i%3, i, []byte{byte(i)})
		}
		refuses(t, "no power", b, 0, 77, []byte{7}, api.ErrDead)
		reads(t, "no power", b, (k-1)%3, k-1, []byte{byte(k - 1)})
		if len(b.Scan()) != min(k, 3) {
			t.Fatalf("Fuse of %d: Scan = %v", k, b.Scan())
		}
	}
}

// Write leaves it to Sync: a crash takes back what is pending.
func TestWriteIsPending(t *testing.T) {
	d := disk.New(2, nil)
	b := held(d)
	wrote(t, b, 0, 1, []byte{1})
	d.Sync()
	wrote(t, b, 0, 2, []byte{2})
	wrote(t, b, 1, 3, []byte{3})
	if d.Pending() != 2 {
		t.Fatalf("%d writes pending, want 2", d.Pending())
	}
	d.Crash(0, 0)
	reads(t, "behind a crash", b, 0, 1, []byte{1})
	scans(t, "behind a crash", b, api.Chunk{Slot: 0, ID: 1, N: 1})
}

func TestWriteKeepsNothing(t *testing.T) {
	mix := mixer(2)
	for n := range 65 {
		b := held(disk.New(1, nil))
		room := mix.bytes(128)
		was := slices.Clone(room)
		wrote(t, b, 0, 6, room[:n])
		b.Write(0, -1, room[:n])
		b.Write(1, 6, room[:n])
		b.Write(0, 6, room[:65])
		if !bytes.Equal(room, was) {
			t.Fatalf("Write of %d bytes changed what was handed in, or its spare room", n)
		}
		clear(room)
		reads(t, "behind a change of what was handed in", b, 0, 6, was[:n])
	}
}

func TestNilIsEmpty(t *testing.T) {
	d := disk.New(2, nil)
	b := held(d)
	wrote(t, b, 0, 8, nil)
	wrote(t, b, 1, 8, []byte{})
	one, _ := d.Read(0)
	other, _ := d.Read(1)
	if !bytes.Equal(one, other) {
		t.Fatalf("nil is %x, none is %x", one, other)
	}
	reads(t, "nil", b, 0, 8, nil)
	reads(t, "none", b, 1, 8, nil)
	scans(t, "both", b, api.Chunk{Slot: 0, ID: 8}, api.Chunk{Slot: 1, ID: 8})
}

// Promise 9.2: Read.

func TestReadErrorsInOrder(t *testing.T) {
	d := disk.New(3, spent())
	b := bay.New(d)
	b.Hold(1)
	for _, slot := range append(strange(), 3, 4) {
		for _, id := range append(ids(), noIDs()...) {
			readsNot(t, "no slot", b, slot, id, api.ErrArg)
		}
	}
	for slot := range 3 {
		for _, id := range append(ids(), noIDs()...) {
			readsNot(t, "noughts", b, slot, id, api.ErrNone)
		}
	}
	d.Fail()
	for _, slot := range append(strange(), 3, 4) {
		readsNot(t, "no slot, not live", b, slot, 5, api.ErrArg)
		readsNot(t, "no slot, not live, no id", b, slot, -1, api.ErrArg)
	}
	for slot := range 3 {
		for _, id := range append(ids(), noIDs()...) {
			readsNot(t, "not live", b, slot, id, api.ErrGone)
		}
	}
	d.Replace()
	readsNot(t, "replaced", b, 1, 0, api.ErrNone)
}

func TestReadOfOtherIDs(t *testing.T) {
	b := held(disk.New(1, nil))
	for _, id := range ids() {
		for _, n := range []int{0, 1, 64} {
			data := bytes.Repeat([]byte{byte(n)}, n)
			wrote(t, b, 0, id, data)
			reads(t, "its own", b, 0, id, data)
			for _, other := range slices.Concat(ids(), noIDs(), []int{id + 1, id - 1, id ^ 1<<31, id + 1<<32, id - 1<<32, ^id, -id - 1}) {
				if other != id {
					readsNot(t, "another id", b, 0, other, api.ErrNone)
				}
			}
		}
	}
}

// Read asks the Disk alone, not which slots are used, nor who wrote there.
func TestReadOfWhatOthersWrote(t *testing.T) {
	d := disk.New(3, nil)
	b := bay.New(d)
	b.Hold(2)
	for slot := range 3 {
		d.Write(slot, chunk(slot+4, []byte{9, 8, byte(slot)}))
	}
	for slot := range 3 {
		reads(t, "of the Disk", b, slot, slot+4, []byte{9, 8, byte(slot)})
		readsNot(t, "of another slot", b, slot, (slot+1)%3+4, api.ErrNone)
	}
	d.Write(1, bytes.Repeat([]byte{183}, 96))
	readsNot(t, "no frame", b, 1, 5, api.ErrNone)
	readsNot(t, "no frame", b, 1, 0xb7b7b7b7, api.ErrNone)
}

func TestReadIsNewMemory(t *testing.T) {
	mix := mixer(3)
	for n := range 65 {
		b := held(disk.New(1, nil))
		data := mix.bytes(n)
		wrote(t, b, 0, 6, data)
		one, _ := b.Read(0, 6)
		other, _ := b.Read(0, 6)
		all := one[:cap(one)]
		for i := range all {
			all[i] ^= 255
		}
		if !bytes.Equal(other, data) {
			t.Fatalf("what Read told of %d bytes shares memory", n)
		}
		reads(t, "behind a change of what was answered", b, 0, 6, data)
		wrote(t, b, 0, 6, make([]byte, n))
		if !bytes.Equal(other, data) {
			t.Fatalf("what Read told of %d bytes changed with the slot", n)
		}
	}
}

// Promise 9.2: Scan.

func TestScanIsOfAllSlots(t *testing.T) {
	d := disk.New(8, nil)
	b := held(d)
	scans(t, "noughts", b)
	for i, slot := range []int{6, 0, 3, 7, 2} { // by slot, not by when it was written
		wrote(t, b, slot, 90-10*i, make([]byte, i))
	}
	want := []api.Chunk{{Slot: 0, ID: 80, N: 1}, {Slot: 2, ID: 50, N: 4}, {Slot: 3, ID: 70, N: 2}, {Slot: 6, ID: 90, N: 0}, {Slot: 7, ID: 60, N: 3}}
	scans(t, "all used", b, want...)
	b.Give(0)
	b.Give(6)
	scans(t, "some used", b, want...)
	for slot := range 8 {
		b.Give(slot)
	}
	scans(t, "none used", b, want...)
	scans(t, "another Bay", bay.New(d), want...)
	d.Sync()
	scans(t, "synced", b, want...)
}

func TestScanOfEachID(t *testing.T) {
	d := disk.New(64, nil)
	b := held(d)
	var want []api.Chunk
	for slot := range 64 {
		id := ids()[slot%len(ids())]
		wrote(t, b, slot, id, make([]byte, slot+1))
		want = append(want, api.Chunk{Slot: slot, ID: id, N: slot + 1})
	}
	scans(t, "64 slots", b, want...)
	for slot := range 64 {
		wrote(t, b, slot, 11, nil)
		want[slot] = api.Chunk{Slot: slot, ID: 11}
	}
	scans(t, "one id in all", b, want...)
}

func TestScanPassesOverWhatIsNone(t *testing.T) {
	d := disk.New(5, nil)
	b := held(d)
	for slot := range 5 {
		wrote(t, b, slot, slot, []byte{1, 2})
	}
	d.Rot(0, 95, 1)
	d.Rot(2, 0, 128)
	d.Write(4, bytes.Repeat([]byte{255}, 96))
	scans(t, "three are none", b, api.Chunk{Slot: 1, ID: 1, N: 2}, api.Chunk{Slot: 3, ID: 3, N: 2})
	d.Rot(0, 95, 1)
	scans(t, "one was turned back", b, api.Chunk{Slot: 0, N: 2}, api.Chunk{Slot: 1, ID: 1, N: 2}, api.Chunk{Slot: 3, ID: 3, N: 2})
}

func TestScanOfADiskThatIsNotLive(t *testing.T) {
	d := disk.New(3, nil)
	b := held(d)
	for slot := range 3 {
		wrote(t, b, slot, slot+1, []byte{1})
	}
	d.Sync()
	d.Fail()
	scans(t, "not live", b)
	d.Replace()
	scans(t, "replaced", b)
	wrote(t, b, 1, 7, []byte{1, 2})
	scans(t, "written again", b, api.Chunk{Slot: 1, ID: 7, N: 2})
	scans(t, "no slots", bay.New(disk.New(0, nil)))
}

func TestScanIsNewMemory(t *testing.T) {
	b := held(disk.New(3, nil))
	wrote(t, b, 0, 4, []byte{1})
	wrote(t, b, 2, 5, []byte{1, 2})
	want := []api.Chunk{{Slot: 0, ID: 4, N: 1}, {Slot: 2, ID: 5, N: 2}}
	one, other := b.Scan(), b.Scan()
	all := one[:cap(one)]
	clear(all)
	if !slices.Equal(other, want) {
		t.Errorf("what Scan told shares memory: %v", other)
	}
	scans(t, "behind a change of what was answered", b, want...)
}

// Promise 9.3: what is read is what was written there, under that id, or an error.

// W3: whatever rots, and by whatever, what was written there is read, or nothing is.
func TestRotted(t *testing.T) {
	for _, n := range []int{0, 1, 16, 64} {
		d := disk.New(2, nil)
		b := held(d)
		data := bytes.Repeat([]byte{200}, n)
		wrote(t, b, 0, 99, data)
		wrote(t, b, 1, 98, data)
		d.Sync()
		for at := range 96 {
			for by := 1; by < 256; by++ {
				d.Rot(0, at, byte(by))
				if got, e := b.Read(0, 99); e != api.ErrNone || len(got) != 0 {
					t.Fatalf("byte %d by %d: Read = %x, %v", at, by, got, e)
				}
				if got := b.Scan(); len(got) != 1 || got[0] != (api.Chunk{Slot: 1, ID: 98, N: n}) {
					t.Fatalf("byte %d by %d: Scan = %v", at, by, got)
				}
				d.Rot(0, at, byte(by))
			}
			reads(t, "turned back", b, 0, 99, data)
		}
	}
}

// W2: a write that was torn is none, or is what was there ahead of it, or is whole.
func TestTorn(t *testing.T) {
	olds := []struct {
		id   int
		data []byte
	}{{1, nil}, {1, make([]byte, 64)}, {1, []byte{7, 7, 7}}, {2, bytes.Repeat([]byte{9}, 16)}, {1<<32 - 1, bytes.Repeat([]byte{255}, 64)}}
	for _, old := range olds {
		for _, next := range olds {
			for torn := range 97 {
				d := disk.New(1, nil)
				b := held(d)
				wrote(t, b, 0, old.id, old.data)
				d.Sync()
				wrote(t, b, 0, next.id, next.data)
				d.Crash(0, torn)
				now, _ := d.Read(0)
				switch {
				case bytes.Equal(now, chunk(next.id, next.data)):
					reads(t, "whole", b, 0, next.id, next.data)
				case bytes.Equal(now, chunk(old.id, old.data)):
					reads(t, "as it was", b, 0, old.id, old.data)
				default:
					readsNot(t, "torn", b, 0, old.id, api.ErrNone)
					readsNot(t, "torn", b, 0, next.id, api.ErrNone)
					scans(t, "torn", b)
				}
			}
		}
	}
}

// said is what was written to a slot, ever.
type said struct {
	slot, id int
	data     string
}

// W1, W3, W8: whatever befalls the Disk, what a Bay answers is what the chapter's words make of a second Disk that the same befalls.
func TestScripts(t *testing.T) {
	found := 0
	for script := range 80 {
		mix := mixer(500 + script)
		count := 1 + mix.below(5)
		f := disk.NewFuse(0)
		d, other := disk.New(count, f), disk.New(count, nil)
		b := bay.New(d)
		used := make([]bool, count)
		ever := map[said]bool{}
		for range 300 {
			befall(t, &mix, f, b, other, used, ever)
			found += same(t, b, other, used, ever)
		}
	}
	if found < 10000 {
		t.Errorf("%d chunks were found in all: the trial tells too little", found)
	}
}

// befall does one thing to both, chosen by mix.
func befall(t *testing.T, mix *mixer, f *disk.Fuse, b *bay.Bay, other *disk.Disk, used []bool, ever map[said]bool) {
	t.Helper()
	d := b.Disk()
	slot := mix.below(len(used))
	switch mix.below(16) {
	case 0:
		if b.Hold(slot) == used[slot] {
			t.Fatalf("Hold(%d) of used %v", slot, used)
		}
		used[slot] = true
	case 1:
		if mix.below(2) == 0 {
			b.Give(slot)
			used[slot] = false
		}
	case 2:
		if d.Sync() == api.OK {
			other.Sync()
		}
	case 3:
		keep, torn := mix.below(4), mix.below(97)
		d.Crash(keep, torn)
		other.Crash(keep, torn)
	case 4:
		if mix.below(4) == 0 {
			d.Fail()
			other.Fail()
		}
	case 5:
		d.Replace()
		other.Replace()
	case 6:
		f.Set(mix.below(4))
	case 7:
		at, by := mix.below(96), byte(1)<<mix.below(8)
		d.Rot(slot, at, by)
		other.Rot(slot, at, by)
	default:
		write(t, mix, f, b, other, used, ever)
	}
}

// write writes to both what may be written, and to neither what may not.
func write(t *testing.T, mix *mixer, f *disk.Fuse, b *bay.Bay, other *disk.Disk, used []bool, ever map[said]bool) {
	t.Helper()
	slot, id, data := mix.below(len(used)+1), mix.below(7)-1, mix.bytes(mix.below(67))
	want := api.OK
	switch {
	case slot == len(used) || !used[slot] || id < 0 || len(data) > 64:
		want = api.ErrArg
	case !other.Live():
		want = api.ErrGone
	case f.Dead():
		want = api.ErrDead
	}
	refuses(t, "script", b, slot, id, data, want)
	if want == api.OK {
		other.Write(slot, chunk(id, data))
		ever[said{slot, id, string(data)}] = true
	}
}

// same tells whether the Bay answers what the other Disk holds, and how many chunks these are.
func same(t *testing.T, b *bay.Bay, other *disk.Disk, used []bool, ever map[said]bool) int {
	t.Helper()
	var want []api.Chunk
	for slot := range used {
		now, e := other.Read(slot)
		for id := range 6 {
			if e != api.OK {
				readsNot(t, "script", b, slot, id, e)
				continue
			}
			// The length that the slot tells is tried: it is a chunk, if it is the one of that length.
			n := min(int(now[1]), 64)
			if !bytes.Equal(now, chunk(id, now[12:12+n])) {
				readsNot(t, "script", b, slot, id, api.ErrNone)
				continue
			}
			reads(t, "script", b, slot, id, now[12:12+n])
			if !ever[said{slot, id, string(now[12 : 12+n])}] {
				t.Fatalf("Read(%d, %d) = %x, which was never written there", slot, id, now[12:12+n])
			}
			want = append(want, api.Chunk{Slot: slot, ID: id, N: n})
		}
	}
	scans(t, "script", b, want...)
	var slots []int
	for slot, is := range used {
		if is {
			slots = append(slots, slot)
		}
	}
	has(t, "script", b, len(used), slots...)
	return len(want)
}

// Promise 9.4: no call panics.

func TestNewOfNil(t *testing.T) {
	b := bay.New(nil)
	has(t, "nil", b, 0)
	isFull(t, "nil", b)
	for _, slot := range append(strange(), 0, 1) {
		if b.Hold(slot) || b.Give(slot) {
			t.Fatalf("Hold or Give of %d = true", slot)
		}
		refuses(t, "nil", b, slot, 1, nil, api.ErrArg)
		readsNot(t, "nil", b, slot, 1, api.ErrArg)
	}
	scans(t, "nil", b)
	b.Disk()
}

func TestNoCallPanics(t *testing.T) {
	defer func() {
		if p := recover(); p != nil {
			t.Errorf("a call panicked: %v", p)
		}
	}()
	numbers := append(strange(), 0, 1, 2, 62, 63)
	rows := [][]byte{nil, {}, {1}, make([]byte, 64), make([]byte, 65), make([]byte, 96), make([]byte, 1<<16)}
	for _, count := range numbers {
		for _, k := range []int{0, 1, 7} {
			d := disk.New(count, disk.NewFuse(k))
			b := bay.New(d)
			for round := range 4 {
				for _, slot := range numbers {
					b.Take()
					b.Hold(slot)
					for _, id := range append(noIDs(), ids()...) {
						for _, row := range rows {
							b.Write(slot, id, row)
						}
						b.Read(slot, id)
					}
					if round%2 == 0 {
						b.Give(slot)
					}
				}
				b.Free()
				b.Used()
				b.Scan()
				b.Disk().Crash(round, round)
				if round%2 == 0 {
					d.Fail()
				} else {
					d.Replace()
				}
			}
		}
	}
}
