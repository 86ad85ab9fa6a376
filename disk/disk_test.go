package disk_test

import (
	"bytes"
	"math"
	"slices"
	"testing"

	"hypocaust/api"
	"hypocaust/disk"
)

// mixer tells numbers that look mixed, the same ones each time.
type mixer uint64

func (m *mixer) below(n int) int {
	*m = *m*6364136223846793005 + 1442695040888963407
	return int(uint64(*m) >> 33 % uint64(n))
}

func (m *mixer) bytes(n int) []byte {
	b := make([]byte, n)
	for i := range b {
		b[i] = byte(m.below(256))
	}
	return b
}

// of tells a slot's bytes, all of them c.
func of(c byte) []byte {
	return bytes.Repeat([]byte{c}, 96)
}

// fromTo tells a slot's bytes, the first n of them c, the others d.
func fromTo(n int, c, d byte) []byte {
	return append(bytes.Repeat([]byte{c}, n), bytes.Repeat([]byte{d}, 96-n)...)
}

// strange are numbers that no slot and no byte of one has, whatever the disk.
func strange() []int {
	return []int{math.MinInt, math.MinInt + 1, -1 << 32, -96, -64, -2, -1, 96, 97, 128, 255, 256, 1 << 16, 1 << 32, 1 << 62, math.MaxInt - 1, math.MaxInt}
}

// strangeRows are rows that are not 96 bytes.
func strangeRows() [][]byte {
	l := [][]byte{nil, {}, of(1)[:95]}
	for _, n := range []int{1, 2, 64, 94, 95, 97, 98, 192, 352, 1 << 16} {
		l = append(l, make([]byte, n))
	}
	return l
}

// wrote writes what may be written.
func wrote(t *testing.T, d *disk.Disk, slot int, b []byte) {
	t.Helper()
	if e := d.Write(slot, b); e != api.OK {
		t.Fatalf("Write(%d): %v", slot, e)
	}
}

// synced syncs what may be synced.
func synced(t *testing.T, d *disk.Disk) {
	t.Helper()
	if e := d.Sync(); e != api.OK {
		t.Fatalf("Sync: %v", e)
	}
}

// rotted rots what may be rotted.
func rotted(t *testing.T, d *disk.Disk, slot, at int, by byte) {
	t.Helper()
	if !d.Rot(slot, at, by) {
		t.Fatalf("Rot(%d, %d, %d) = false", slot, at, by)
	}
}

// holds tells whether the Disk is live and has just these slots, and so many writes pending.
func holds(t *testing.T, name string, d *disk.Disk, pending int, slots ...[]byte) {
	t.Helper()
	if d.Slots() != len(slots) || d.Pending() != pending || !d.Live() {
		t.Fatalf("%s: %d slots, %d writes pending, live %v, want %d, %d, true", name, d.Slots(), d.Pending(), d.Live(), len(slots), pending)
	}
	for slot, want := range slots {
		got, e := d.Read(slot)
		if e != api.OK || !bytes.Equal(got, want) {
			t.Fatalf("%s: Read(%d) = %v, %v, want %v", name, slot, got, e, want)
		}
	}
}

// isGone tells whether the Disk is not live, and answers so.
func isGone(t *testing.T, name string, d *disk.Disk) {
	t.Helper()
	if d.Live() {
		t.Fatalf("%s: Live = true", name)
	}
	for slot := range d.Slots() {
		got, e := d.Read(slot)
		if len(got) != 0 || e != api.ErrGone {
			t.Fatalf("%s: Read(%d) = %v, %v, want nothing, ErrGone", name, slot, got, e)
		}
	}
}

// Promise 7.1: a Fuse.

func TestFuseOfSoManyWrites(t *testing.T) {
	for _, k := range []int{1, 2, 3, 7, 64, 1000} {
		f := disk.NewFuse(k)
		for i := range k {
			if f.Dead() || !f.Spend() {
				t.Fatalf("Fuse of %d: dead at %d", k, i)
			}
		}
		for range 5 {
			if !f.Dead() || f.Spend() {
				t.Fatalf("Fuse of %d: not dead behind them", k)
			}
		}
	}
}

func TestFuseWithoutABound(t *testing.T) {
	for _, k := range []int{0, -1, -2, -1000, math.MinInt32, math.MinInt, math.MinInt + 1} {
		f := disk.NewFuse(k)
		for i := range 5000 {
			if f.Dead() || !f.Spend() {
				t.Fatalf("Fuse of %d: dead at %d", k, i)
			}
		}
	}
}

func TestFuseOfAGreatManyWrites(t *testing.T) {
	for _, k := range []int{1 << 31, 1<<32 + 1, 1 << 62, math.MaxInt} {
		f := disk.NewFuse(k)
		for range 5000 {
			if f.Dead() || !f.Spend() {
				t.Fatalf("Fuse of %d: dead", k)
			}
		}
	}
}

// To ask whether it is dead spends nothing.
func TestDeadSpendsNothing(t *testing.T) {
	f := disk.NewFuse(3)
	for range 3 {
		for range 10 {
			if f.Dead() {
				t.Fatal("dead ahead of its time")
			}
		}
		if !f.Spend() {
			t.Fatal("Spend = false ahead of its time")
		}
	}
	if !f.Dead() {
		t.Fatal("not dead behind three")
	}
}

// lasts tells whether f lets just k writes be done; k below 1: any number.
func lasts(t *testing.T, name string, f *disk.Fuse, k int) {
	t.Helper()
	for i := range 40 {
		want := k < 1 || i < k
		if f.Dead() == want || f.Spend() != want {
			t.Fatalf("%s: write %d, want %v", name, i, want)
		}
	}
}

func TestSetIsANewOne(t *testing.T) {
	for _, first := range []int{-3, 0, 1, 2, 5, 30} {
		for spent := range 8 {
			for _, k := range []int{math.MinInt, -3, 0, 1, 2, 5, 30} {
				f := disk.NewFuse(first)
				for range spent {
					f.Spend()
				}
				f.Set(k)
				lasts(t, "behind Set", f, k)
				f.Set(2)
				lasts(t, "behind Set once more", f, 2)
			}
		}
	}
}

func TestFusesAreApart(t *testing.T) {
	f, g := disk.NewFuse(2), disk.NewFuse(2)
	lasts(t, "one", f, 2)
	lasts(t, "the other", g, 2)
	f.Set(3)
	if !g.Dead() {
		t.Error("Set of one woke the other")
	}
}

// 7.2: a nil Fuse never is dead.
func TestNilFuse(t *testing.T) {
	var f *disk.Fuse
	lasts(t, "a nil Fuse", f, 0)
	f.Set(1)
	lasts(t, "a nil Fuse behind Set", f, 0)
}

// Promise 7.2: New.

func TestNewDisk(t *testing.T) {
	for slots, want := range map[int]int{
		math.MinInt: 0, -64: 0, -1: 0, 0: 0, 1: 1, 2: 2, 5: 5, 63: 63, 64: 64, 65: 64, 66: 64, 96: 64, 256: 64, 1 << 32: 64, 1<<32 + 5: 64, math.MaxInt: 64,
	} {
		for _, f := range []*disk.Fuse{nil, disk.NewFuse(0), disk.NewFuse(1)} {
			d := disk.New(slots, f)
			holds(t, "a new Disk", d, 0, slices.Repeat([][]byte{of(0)}, want)...)
			if e := d.Sync(); e != api.OK {
				t.Errorf("Sync of a new Disk: %v", e)
			}
		}
	}
}

func TestDisksAreApart(t *testing.T) {
	f := disk.NewFuse(0)
	d, o := disk.New(2, f), disk.New(2, f)
	wrote(t, d, 0, of(1))
	holds(t, "the other one", o, 0, of(0), of(0))
	wrote(t, o, 0, of(2))
	o.Crash(0, 0)
	rotted(t, o, 1, 0, 1)
	holds(t, "the first one", d, 1, of(1), of(0))
	o.Fail()
	holds(t, "the first one", d, 1, of(1), of(0))
	isGone(t, "the other one", o)
	synced(t, d)
	o.Replace()
	holds(t, "the first one", d, 0, of(1), of(0))
	holds(t, "the other one", o, 0, of(0), of(0))
}

// Promise 7.2: Write and Read.

func TestWriteIsRead(t *testing.T) {
	var mix mixer
	for _, count := range []int{1, 2, 5, 64} {
		d := disk.New(count, nil)
		slots := slices.Repeat([][]byte{of(0)}, count)
		for i := range 3 * count {
			slot := mix.below(count)
			slots[slot] = mix.bytes(96)
			wrote(t, d, slot, slots[slot])
			holds(t, "behind Write", d, i+1, slots...)
		}
		synced(t, d)
		holds(t, "behind Sync", d, 0, slots...)
	}
}

// Each slot may be written, and no other one is touched then.
func TestWriteToEachSlot(t *testing.T) {
	d := disk.New(64, nil)
	slots := slices.Repeat([][]byte{of(0)}, 64)
	for slot := range 64 {
		slots[slot] = of(byte(slot + 1))
		wrote(t, d, slot, slots[slot])
		holds(t, "behind Write", d, slot+1, slots...)
	}
}

// A write of what is there already is one, too.
func TestWriteOfTheSame(t *testing.T) {
	f := disk.NewFuse(3)
	d := disk.New(1, f)
	for i := range 3 {
		wrote(t, d, 0, of(0))
		holds(t, "behind Write", d, i+1, of(0))
	}
	if e := d.Write(0, of(0)); e != api.ErrDead {
		t.Errorf("Write: %v, want ErrDead", e)
	}
}

func TestWriteRefuses(t *testing.T) {
	for _, count := range []int{0, 1, 3, 64} {
		f := disk.NewFuse(count + 1)
		d := disk.New(count, f)
		for slot := range count {
			wrote(t, d, slot, of(byte(slot+1)))
		}
		slots := [][]byte{}
		for slot := range count {
			slots = append(slots, of(byte(slot+1)))
		}
		for _, slot := range append(strange(), count, count+1) {
			for _, b := range append(strangeRows(), of(9)) {
				if e := d.Write(slot, b); e != api.ErrArg {
					t.Fatalf("Write(%d) of %d bytes to %d slots: %v, want ErrArg", slot, len(b), count, e)
				}
			}
		}
		for slot := range count {
			for _, b := range strangeRows() {
				if e := d.Write(slot, b); e != api.ErrArg {
					t.Fatalf("Write(%d) of %d bytes: %v, want ErrArg", slot, len(b), e)
				}
			}
		}
		holds(t, "behind what was refused", d, count, slots...)
		if f.Dead() {
			t.Error("what was refused spent power")
		}
	}
}

// Spare room behind a row that is too short does not make it whole, and bytes behind one that is whole are none of it.
func TestWriteOfARowWithRoom(t *testing.T) {
	d := disk.New(1, nil)
	room := append(of(3), of(5)...)
	if e := d.Write(0, room[:95]); e != api.ErrArg {
		t.Errorf("Write of 95 bytes: %v, want ErrArg", e)
	}
	wrote(t, d, 0, room[:96])
	holds(t, "behind Write", d, 1, of(3))
	if !bytes.Equal(room, append(of(3), of(5)...)) {
		t.Errorf("Write changed what it was handed: %v", room)
	}
}

func TestReadRefuses(t *testing.T) {
	for _, count := range []int{0, 1, 3, 64} {
		d := disk.New(count, nil)
		for _, slot := range append(strange(), count, count+1) {
			got, e := d.Read(slot)
			if len(got) != 0 || e != api.ErrArg {
				t.Errorf("Read(%d) of %d slots = %v, %v, want nothing, ErrArg", slot, count, got, e)
			}
		}
	}
}

// What was handed in is not kept, and what was answered is not the Disk's.
func TestMemoryIsApart(t *testing.T) {
	d := disk.New(2, nil)
	for i, sync := range []bool{false, true} {
		b := of(7)
		wrote(t, d, 0, b)
		if sync {
			synced(t, d)
		}
		clear(b)
		got, _ := d.Read(0)
		clear(got[:cap(got)])
		_ = append(got[:96], 1, 2, 3)
		again, _ := d.Read(0)
		if !bytes.Equal(again, of(7)) {
			t.Errorf("%d: the slot is %v, want all 7", i, again)
		}
		if !bytes.Equal(got[:96], of(0)) {
			t.Errorf("%d: two answers share memory", i)
		}
	}
	holds(t, "the slot behind it", d, 0, of(7), of(0))
	wrote(t, d, 0, of(8))
	rotted(t, d, 0, 0, 255)
	was := of(9)
	wrote(t, d, 1, was)
	rotted(t, d, 1, 0, 255)
	if !bytes.Equal(was, of(9)) {
		t.Error("Rot turned what Write was handed")
	}
	got, _ := d.Read(1)
	rotted(t, d, 1, 1, 255)
	d.Crash(0, 0)
	if !bytes.Equal(got, append([]byte{9 ^ 255}, of(9)[:95]...)) {
		t.Error("what was answered was turned")
	}
	holds(t, "behind Crash", d, 0, of(7), of(0))
}

// One row may be written to several slots.
func TestOneRowToAllSlots(t *testing.T) {
	d := disk.New(3, nil)
	b := of(4)
	for slot := range 3 {
		wrote(t, d, slot, b)
	}
	rotted(t, d, 1, 2, 1)
	want := of(4)
	want[2] = 5
	holds(t, "behind Rot", d, 3, of(4), want, of(4))
}

// Promise 7.2: which error.

// The order of the calls' own words: ErrArg, ErrGone, ErrDead.
func TestOrderOfErrors(t *testing.T) {
	for _, gone := range []bool{false, true} {
		for _, dead := range []bool{false, true} {
			f := disk.NewFuse(0)
			d := disk.New(2, f)
			wrote(t, d, 0, of(1))
			if gone {
				d.Fail()
			}
			f.Set(1)
			if dead {
				f.Spend()
			}
			write, read, sync := api.OK, api.OK, api.OK
			switch {
			case gone:
				write, read, sync = api.ErrGone, api.ErrGone, api.ErrGone
			case dead:
				write, sync = api.ErrDead, api.ErrDead
			}
			for _, slot := range []int{-1, 2, 64} {
				if e := d.Write(slot, of(2)); e != api.ErrArg {
					t.Errorf("gone %v, dead %v: Write(%d): %v, want ErrArg", gone, dead, slot, e)
				}
				if _, e := d.Read(slot); e != api.ErrArg {
					t.Errorf("gone %v, dead %v: Read(%d): %v, want ErrArg", gone, dead, slot, e)
				}
			}
			for _, b := range strangeRows() {
				if e := d.Write(1, b); e != api.ErrArg {
					t.Errorf("gone %v, dead %v: Write of %d bytes: %v, want ErrArg", gone, dead, len(b), e)
				}
			}
			if _, e := d.Read(1); e != read {
				t.Errorf("gone %v, dead %v: Read: %v, want %v", gone, dead, e, read)
			}
			if e := d.Sync(); e != sync {
				t.Errorf("gone %v, dead %v: Sync: %v, want %v", gone, dead, e, sync)
			}
			if f.Dead() != dead {
				t.Errorf("gone %v, dead %v: what writes nothing spent power", gone, dead)
			}
			if e := d.Write(1, of(2)); e != write {
				t.Errorf("gone %v, dead %v: Write: %v, want %v", gone, dead, e, write)
			}
			if f.Dead() != (dead || !gone) {
				t.Errorf("gone %v, dead %v: behind Write, Dead = %v", gone, dead, f.Dead())
			}
		}
	}
}

// Promise 7.1 and 7.2: power.

func TestPowerEnds(t *testing.T) {
	for k := 1; k < 9; k++ {
		f := disk.NewFuse(k)
		d := disk.New(3, f)
		slots := [][]byte{of(0), of(0), of(0)}
		for i := range k {
			slots[i%3] = of(byte(i + 1))
			wrote(t, d, i%3, slots[i%3])
		}
		for slot := range 3 {
			if e := d.Write(slot, of(99)); e != api.ErrDead {
				t.Fatalf("Write behind %d: %v, want ErrDead", k, e)
			}
			if e := d.Sync(); e != api.ErrDead {
				t.Fatalf("Sync behind %d: %v, want ErrDead", k, e)
			}
			holds(t, "without power", d, k, slots...)
		}
		f.Set(0)
		synced(t, d)
		holds(t, "with power again", d, 0, slots...)
	}
}

// Sync needs power, and spends none.
func TestSyncSpendsNothing(t *testing.T) {
	f := disk.NewFuse(2)
	d := disk.New(1, f)
	for range 10 {
		synced(t, d)
	}
	wrote(t, d, 0, of(1))
	for range 10 {
		synced(t, d)
	}
	wrote(t, d, 0, of(2))
	if e := d.Sync(); e != api.ErrDead {
		t.Errorf("Sync: %v, want ErrDead", e)
	}
	d.Crash(0, 0)
	holds(t, "behind Crash", d, 0, of(1))
	if e := d.Sync(); e != api.ErrDead {
		t.Errorf("Sync of nothing: %v, want ErrDead", e)
	}
}

// All but Write and Sync go on without power.
func TestWithoutPower(t *testing.T) {
	f := disk.NewFuse(2)
	d := disk.New(2, f)
	wrote(t, d, 0, of(1))
	synced(t, d)
	wrote(t, d, 1, of(2))
	rotted(t, d, 0, 95, 6)
	rotted(t, d, 1, 0, 6)
	holds(t, "behind Rot", d, 1, append(of(1)[:95], 7), append([]byte{4}, of(2)[:95]...))
	d.Crash(0, 1)
	holds(t, "behind Crash", d, 0, append(of(1)[:95], 7), append([]byte{4}, of(0)[:95]...))
	d.Fail()
	isGone(t, "behind Fail", d)
	d.Replace()
	holds(t, "behind Replace", d, 0, of(0), of(0))
	if !f.Dead() {
		t.Error("the Fuse is not dead any more")
	}
}

// Power is that of all who share the Fuse.
func TestPowerIsShared(t *testing.T) {
	f := disk.NewFuse(3)
	d, o := disk.New(1, f), disk.New(1, f)
	wrote(t, d, 0, of(1))
	wrote(t, o, 0, of(2))
	if !f.Spend() {
		t.Fatal("Spend = false")
	}
	for _, x := range []*disk.Disk{d, o} {
		if e := x.Write(0, of(3)); e != api.ErrDead {
			t.Errorf("Write: %v, want ErrDead", e)
		}
		if e := x.Sync(); e != api.ErrDead {
			t.Errorf("Sync: %v, want ErrDead", e)
		}
	}
	f.Set(1)
	synced(t, d)
	wrote(t, o, 0, of(4))
	if e := d.Write(0, of(5)); e != api.ErrDead {
		t.Errorf("Write: %v, want ErrDead", e)
	}
	holds(t, "the one", d, 0, of(1))
	holds(t, "the other", o, 2, of(4))
}

// Whatever befalls a Disk, its Fuse stays the one that New was handed.
func TestFuseStays(t *testing.T) {
	for name, befalls := range map[string]func(d *disk.Disk){
		"nothing": func(d *disk.Disk) {},
		"Sync":    func(d *disk.Disk) { d.Sync() },
		"Crash":   func(d *disk.Disk) { d.Crash(0, 0) },
		"Rot":     func(d *disk.Disk) { d.Rot(0, 0, 1) },
		"Replace": func(d *disk.Disk) { d.Replace() },
		"Fail and Replace": func(d *disk.Disk) {
			d.Fail()
			d.Replace()
		},
	} {
		f := disk.NewFuse(2)
		d := disk.New(1, f)
		wrote(t, d, 0, of(1))
		befalls(d)
		if f.Dead() {
			t.Errorf("%s spent power", name)
		}
		wrote(t, d, 0, of(2))
		if !f.Dead() {
			t.Errorf("behind %s a write spent no power", name)
		}
		befalls(d)
		if e := d.Write(0, of(3)); e != api.ErrDead {
			t.Errorf("Write behind %s without power: %v, want ErrDead", name, e)
		}
		if e := d.Sync(); e != api.ErrDead {
			t.Errorf("Sync behind %s without power: %v, want ErrDead", name, e)
		}
		f.Set(0)
		wrote(t, d, 0, of(4))
		synced(t, d)
	}
}

func TestDiskOfANilFuse(t *testing.T) {
	d := disk.New(1, nil)
	for i := range 1000 {
		wrote(t, d, 0, of(byte(i)))
	}
	synced(t, d)
	holds(t, "behind Sync", d, 0, of(999%256))
}

// Promise 7.2: Fail and Replace.

func TestFail(t *testing.T) {
	f := disk.NewFuse(2)
	d := disk.New(2, f)
	wrote(t, d, 0, of(1))
	for range 2 {
		d.Fail()
		isGone(t, "behind Fail", d)
		for slot := range 2 {
			if e := d.Write(slot, of(2)); e != api.ErrGone {
				t.Errorf("Write: %v, want ErrGone", e)
			}
			for at := range 96 {
				if d.Rot(slot, at, 1) {
					t.Errorf("Rot(%d, %d) = true", slot, at)
				}
			}
		}
		if e := d.Sync(); e != api.ErrGone {
			t.Errorf("Sync: %v, want ErrGone", e)
		}
		if d.Slots() != 2 {
			t.Errorf("%d slots, want 2", d.Slots())
		}
	}
	if f.Dead() {
		t.Error("a Disk that is not live spent power")
	}
}

// 7.2 tells of Fail only that the Disk is not live: what is pending is so till a Crash or a Replace.
func TestPendingOfADiskThatFailed(t *testing.T) {
	d := disk.New(1, nil)
	wrote(t, d, 0, of(1))
	wrote(t, d, 0, of(2))
	d.Fail()
	if d.Pending() != 2 {
		t.Errorf("Pending = %d, want 2", d.Pending())
	}
	d.Crash(1, 0)
	if d.Pending() != 0 {
		t.Errorf("Pending behind Crash = %d, want 0", d.Pending())
	}
	isGone(t, "behind Crash", d)
	d.Replace()
	holds(t, "behind Replace", d, 0, of(0))
}

func TestReplace(t *testing.T) {
	for _, fails := range []bool{false, true} {
		for _, syncs := range []bool{false, true} {
			d := disk.New(3, nil)
			for slot := range 3 {
				wrote(t, d, slot, of(byte(slot+1)))
			}
			if syncs {
				synced(t, d)
			}
			rotted(t, d, 2, 5, 9)
			if fails {
				d.Fail()
			}
			d.Replace()
			holds(t, "behind Replace", d, 0, of(0), of(0), of(0))
			d.Crash(2, 50)
			holds(t, "behind Crash", d, 0, of(0), of(0), of(0))
			wrote(t, d, 1, of(7))
			holds(t, "behind Write", d, 1, of(0), of(7), of(0))
			d.Crash(0, 9)
			holds(t, "behind Crash", d, 0, of(0), fromTo(9, 7, 0), of(0))
			wrote(t, d, 1, of(8))
			synced(t, d)
			d.Crash(0, 0)
			holds(t, "what was synced", d, 0, of(0), of(8), of(0))
		}
	}
}

// Promise 7.2: Rot.

// turned tells b with one byte of it turned.
func turned(b []byte, at int, by byte) []byte {
	b = bytes.Clone(b)
	b[at] ^= by
	return b
}

func TestRotOfEachByte(t *testing.T) {
	for _, pending := range []bool{false, true} {
		d := disk.New(2, nil)
		slots := [][]byte{of(0x5a), of(0xa5)}
		count := 0
		for slot, b := range slots {
			wrote(t, d, slot, b)
		}
		if pending {
			count = 2
		} else {
			synced(t, d)
		}
		for slot := range 2 {
			for at := range 96 {
				by := byte(2*at + slot)
				rotted(t, d, slot, at, by)
				slots[slot] = turned(slots[slot], at, by)
				holds(t, "behind Rot", d, count, slots...)
			}
		}
	}
}

func TestRotByEachNumber(t *testing.T) {
	d := disk.New(1, nil)
	wrote(t, d, 0, of(0x3c))
	for by := range 256 {
		rotted(t, d, 0, 40, byte(by))
		holds(t, "behind Rot", d, 1, turned(of(0x3c), 40, byte(by)))
		rotted(t, d, 0, 40, byte(by))
		holds(t, "behind Rot once more", d, 1, of(0x3c))
	}
}

func TestRotRefuses(t *testing.T) {
	for _, count := range []int{0, 1, 3, 64} {
		d := disk.New(count, nil)
		for _, by := range []byte{0, 1, 255} {
			for _, slot := range append(strange(), count, count+1) {
				for _, at := range append(strange(), 0, 95) {
					if d.Rot(slot, at, by) {
						t.Fatalf("Rot(%d, %d, %d) of %d slots = true", slot, at, by, count)
					}
				}
			}
			for slot := range count {
				for _, at := range strange() {
					if d.Rot(slot, at, by) {
						t.Fatalf("Rot(%d, %d, %d) = true", slot, at, by)
					}
				}
			}
		}
		holds(t, "behind what was refused", d, 0, slices.Repeat([][]byte{of(0)}, count)...)
	}
}

// A Rot is no write: it is not pending, and spends no power.
func TestRotIsNoWrite(t *testing.T) {
	f := disk.NewFuse(1)
	d := disk.New(1, f)
	for range 9 {
		rotted(t, d, 0, 3, 1)
	}
	if f.Dead() || d.Pending() != 0 {
		t.Errorf("Dead = %v, Pending = %d, want false, 0", f.Dead(), d.Pending())
	}
	d.Crash(0, 0)
	holds(t, "a crash does not mend", d, 0, turned(of(0), 3, 1))
}

// Of two pending writes to a slot the last is turned, and the first, and what was synced, are not.
func TestRotOfTheLastWrite(t *testing.T) {
	for keep := range 5 {
		d := disk.New(2, nil)
		wrote(t, d, 0, of(1))
		synced(t, d)
		rotted(t, d, 0, 10, 64) // of what was synced
		wrote(t, d, 0, of(2))
		rotted(t, d, 0, 11, 64) // of the first write
		wrote(t, d, 0, of(3))
		wrote(t, d, 1, of(4))
		rotted(t, d, 0, 12, 64) // of the second one, not of the last of all
		holds(t, "behind Rots", d, 3, turned(of(3), 12, 64), of(4))
		d.Crash(keep, 0)
		slots := [][]byte{turned(of(1), 10, 64), turned(of(2), 11, 64), turned(of(3), 12, 64), turned(of(3), 12, 64), turned(of(3), 12, 64)}
		other := of(0)
		if keep > 2 {
			other = of(4)
		}
		holds(t, "behind Crash", d, 0, slots[keep], other)
	}
}

// What stays of a write that is torn is as it was turned; behind it what was there ahead is.
func TestRotOfATornWrite(t *testing.T) {
	for torn := range 97 {
		for at := range 96 {
			d := disk.New(1, nil)
			wrote(t, d, 0, of(1))
			synced(t, d)
			wrote(t, d, 0, of(2))
			rotted(t, d, 0, at, 64)
			d.Crash(0, torn)
			want := fromTo(torn, 2, 1)
			if at < torn {
				want[at] = 2 ^ 64
			}
			holds(t, "behind Crash", d, 0, want)
		}
	}
}

// A Rot ahead of a write is of what that write covers: when it is torn, its rest shows.
func TestTornWriteOverRot(t *testing.T) {
	for torn := range 97 {
		d := disk.New(1, nil)
		rotted(t, d, 0, 50, 9)
		wrote(t, d, 0, of(2))
		d.Crash(0, torn)
		want := fromTo(torn, 2, 0)
		if torn <= 50 {
			want[50] = 9
		}
		holds(t, "behind Crash", d, 0, want)
	}
}

// Once it is synced, a write that rotted is the slot.
func TestRotIsSynced(t *testing.T) {
	d := disk.New(1, nil)
	wrote(t, d, 0, of(2))
	rotted(t, d, 0, 0, 1)
	synced(t, d)
	d.Crash(0, 0)
	holds(t, "behind Crash", d, 0, turned(of(2), 0, 1))
	wrote(t, d, 0, of(5))
	synced(t, d)
	holds(t, "a write mends", d, 0, of(5))
}

// Promise 7.2: Crash.

func TestCrashExample(t *testing.T) {
	d := disk.New(1, nil)
	wrote(t, d, 0, of(1))
	d.Crash(0, 0)
	holds(t, "Write, Crash(0, 0)", d, 0, of(0))
}

func TestCrashOfNothing(t *testing.T) {
	d := disk.New(2, nil)
	wrote(t, d, 1, of(3))
	synced(t, d)
	for _, keep := range append(strange(), 0, 1, 2) {
		for _, torn := range append(strange(), 0, 1, 95) {
			d.Crash(keep, torn)
			holds(t, "behind Crash", d, 0, of(0), of(3))
		}
	}
	disk.New(0, nil).Crash(1, 1)
}

// Below 0 is 0; above what there is, all.
func TestCrashWithStrangeNumbers(t *testing.T) {
	for _, keep := range append(strange(), 0, 1, 2, 3) {
		for _, torn := range append(strange(), 0, 1, 95) {
			d := disk.New(2, nil)
			wrote(t, d, 0, of(1))
			wrote(t, d, 1, of(2))
			d.Crash(keep, torn)
			stays := min(max(torn, 0), 96)
			switch {
			case keep <= 0:
				holds(t, "behind Crash", d, 0, fromTo(stays, 1, 0), of(0))
			case keep == 1:
				holds(t, "behind Crash", d, 0, of(1), fromTo(stays, 2, 0))
			default:
				holds(t, "behind Crash", d, 0, of(1), of(2))
			}
		}
	}
}

func TestCrashOfEachTornByte(t *testing.T) {
	for torn := range 97 {
		d := disk.New(1, nil)
		wrote(t, d, 0, of(1))
		synced(t, d)
		wrote(t, d, 0, of(2))
		wrote(t, d, 0, of(3))
		d.Crash(1, torn)
		holds(t, "the second write is torn", d, 0, fromTo(torn, 3, 2))
		wrote(t, d, 0, of(4))
		d.Crash(0, torn)
		want := append(bytes.Repeat([]byte{4}, torn), fromTo(torn, 3, 2)[torn:]...)
		holds(t, "a write over it is torn", d, 0, want)
	}
}

// A crash that is over is over: what it left is as if synced, and no later crash brings anything back.
func TestCrashTwice(t *testing.T) {
	d := disk.New(2, nil)
	wrote(t, d, 0, of(1))
	wrote(t, d, 0, of(2))
	wrote(t, d, 1, of(3))
	d.Crash(2, 7)
	for _, keep := range []int{0, 1, 2, 3, 9} {
		d.Crash(keep, 50)
		holds(t, "crashed again", d, 0, of(2), fromTo(7, 3, 0))
	}
	wrote(t, d, 1, of(5))
	d.Crash(0, 0)
	holds(t, "a later write", d, 0, of(2), fromTo(7, 3, 0))
}

// model keeps what was synced, and each pending write as it is by now: the other way round than the Disk does.
type model struct {
	slots  [][]byte
	writes []written
}

type written struct {
	slot int
	b    []byte
}

func newModel(count int) *model {
	return &model{slots: slices.Repeat([][]byte{of(0)}, count)}
}

func (m *model) write(slot int, b []byte) {
	m.writes = append(m.writes, written{slot, bytes.Clone(b)})
}

func (m *model) rot(slot, at int, by byte) {
	for i := len(m.writes) - 1; i >= 0; i-- {
		if m.writes[i].slot == slot {
			m.writes[i].b[at] ^= by
			return
		}
	}
	m.slots[slot] = turned(m.slots[slot], at, by)
}

// after tells the slots of which the first keep writes are, and the first torn bytes of the next one.
func (m *model) after(keep, torn int) [][]byte {
	slots := slices.Clone(m.slots)
	for i, w := range m.writes {
		switch {
		case i < keep:
			slots[w.slot] = w.b
		case i == keep:
			slots[w.slot] = append(bytes.Clone(w.b[:torn]), slots[w.slot][torn:]...)
		}
	}
	return slots
}

func (m *model) crash(keep, torn int) {
	m.slots, m.writes = m.after(keep, torn), nil
}

// befall does one thing to both, chosen by mix; what is synced or lost is left to the caller.
func befall(t *testing.T, mix *mixer, d *disk.Disk, m *model) {
	t.Helper()
	slot := mix.below(len(m.slots))
	if mix.below(3) == 0 {
		at, by := mix.below(96), byte(mix.below(256))
		rotted(t, d, slot, at, by)
		m.rot(slot, at, by)
		return
	}
	b := mix.bytes(96)
	wrote(t, d, slot, b)
	m.write(slot, b)
}

// W2, W3: power may go at any write, wherever a write may be torn, and whatever rotted.
func TestCrashAtEachWrite(t *testing.T) {
	for script := range 12 {
		for keep := range 12 {
			for _, torn := range []int{0, 1, 47, 48, 95, 96} {
				mix := mixer(script)
				d, m := disk.New(3, nil), newModel(3)
				for range 14 {
					befall(t, &mix, d, m)
				}
				synced(t, d)
				m.crash(len(m.writes), 0)
				for range 14 {
					befall(t, &mix, d, m)
				}
				holds(t, "ahead of Crash", d, len(m.writes), m.after(len(m.writes), 0)...)
				d.Crash(keep, torn)
				m.crash(keep, torn)
				holds(t, "behind Crash", d, 0, m.slots...)
			}
		}
	}
}

// W2, W3: what befalls a Disk in any order.
func TestScripts(t *testing.T) {
	for script := range 60 {
		mix := mixer(1000 + script)
		count := 1 + mix.below(5)
		d, m := disk.New(count, disk.NewFuse(0)), newModel(count)
		for range 200 {
			switch mix.below(16) {
			case 0, 1:
				synced(t, d)
				m.crash(len(m.writes), 0)
			case 2:
				keep, torn := mix.below(5), mix.below(97)
				d.Crash(keep, torn)
				m.crash(keep, torn)
			case 3:
				if mix.below(4) == 0 {
					d.Fail()
					isGone(t, "behind Fail", d)
					d.Replace()
					m = newModel(count)
				}
			default:
				befall(t, &mix, d, m)
			}
			holds(t, "in a script", d, len(m.writes), m.after(len(m.writes), 0)...)
		}
	}
}

// Promise 7.2: Pending.

func TestPending(t *testing.T) {
	d := disk.New(3, nil)
	for i := range 300 {
		if d.Pending() != i {
			t.Fatalf("Pending = %d, want %d", d.Pending(), i)
		}
		wrote(t, d, i%2, of(byte(i)))
		if _, e := d.Read(i % 3); e != api.OK {
			t.Fatal(e)
		}
	}
	synced(t, d)
	if d.Pending() != 0 {
		t.Errorf("Pending behind Sync = %d, want 0", d.Pending())
	}
	wrote(t, d, 2, of(1))
	if d.Pending() != 1 {
		t.Errorf("Pending = %d, want 1", d.Pending())
	}
	d.Crash(1, 0)
	if d.Pending() != 0 {
		t.Errorf("Pending behind Crash = %d, want 0", d.Pending())
	}
	wrote(t, d, 2, of(1))
	d.Replace()
	if d.Pending() != 0 {
		t.Errorf("Pending behind Replace = %d, want 0", d.Pending())
	}
}

// Promise 7.3: what was synced stays, till it fails or rots.

func TestSyncedStays(t *testing.T) {
	for keep := range 4 {
		for _, torn := range []int{0, 1, 48, 95, 96} {
			f := disk.NewFuse(0)
			d := disk.New(4, f)
			for slot := range 3 {
				wrote(t, d, slot, of(byte(slot+1)))
			}
			synced(t, d)
			d.Crash(keep, torn)
			holds(t, "behind Crash", d, 0, of(1), of(2), of(3), of(0))
			for i := range 3 { // of another slot
				wrote(t, d, 3, of(byte(i+50)))
			}
			d.Write(4, of(9))
			d.Write(0, of(9)[:95])
			d.Rot(4, 0, 1)
			d.Rot(0, 96, 1)
			rotted(t, d, 3, 9, 255)
			f.Set(1)
			f.Spend()
			d.Write(0, of(9))
			d.Sync()
			d.Crash(keep, torn)
			for slot := range 3 {
				got, e := d.Read(slot)
				if e != api.OK || !bytes.Equal(got, of(byte(slot+1))) {
					t.Fatalf("slot %d is %v, %v, want all %d", slot, got, e, slot+1)
				}
			}
		}
	}
}

// A write that was synced is covered, wholly or by its beginning, by later ones alone that stay.
func TestSyncedStaysUnderLaterWrites(t *testing.T) {
	d := disk.New(1, nil)
	wrote(t, d, 0, of(1))
	synced(t, d)
	for range 5 {
		wrote(t, d, 0, of(2))
		wrote(t, d, 0, of(3))
		holds(t, "ahead of Crash", d, 2, of(3))
		d.Crash(-1, -1)
		holds(t, "behind Crash", d, 0, of(1))
	}
	d.Fail()
	isGone(t, "behind Fail", d)
	d.Replace()
	holds(t, "behind Replace", d, 0, of(0))
}

// Promise 7.4: no call panics.

func TestNoCallPanics(t *testing.T) {
	defer func() {
		if p := recover(); p != nil {
			t.Errorf("a call panicked: %v", p)
		}
	}()
	numbers := append(strange(), 0, 1, 2, 63, 64, 65, 95)
	rows := append(strangeRows(), of(1), make([]byte, 1<<20))
	for _, count := range numbers {
		for _, k := range numbers {
			f := disk.NewFuse(k)
			d := disk.New(count, f)
			for _, slot := range numbers {
				for _, b := range rows {
					d.Write(slot, b)
				}
				d.Read(slot)
				for _, at := range numbers {
					d.Rot(slot, at, byte(at))
				}
			}
			d.Slots()
			d.Live()
			d.Pending()
			d.Crash(count, k)
			d.Fail()
			d.Write(0, of(1))
			d.Read(0)
			d.Rot(0, 0, 1)
			d.Sync()
			d.Crash(k, count)
			d.Replace()
			d.Write(0, of(1))
			d.Sync()
			f.Set(count)
			f.Spend()
			f.Dead()
		}
	}
}
