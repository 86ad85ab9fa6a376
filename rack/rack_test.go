package rack_test

import (
	"bytes"
	"encoding/binary"
	"hash/crc32"
	"math"
	"slices"
	"testing"

	"hypocaust/api"
	"hypocaust/bay"
	"hypocaust/disk"
	"hypocaust/rack"
)

// mixer tells numbers that look mixed, the same ones each time.
type mixer uint64

func (m *mixer) below(n int) int {
	*m = *m*6364136223846793005 + 1442695040888963407
	return int(uint64(*m) >> 33 % uint64(n))
}

func (m *mixer) bytes(n int) []byte {
	b := make([]byte, n)
	for i := range b {
		b[i] = byte(m.below(256))
	}
	return b
}

// some tells n numbers below most.
func (m *mixer) some(n, most int) []int {
	l := make([]int, n)
	for i := range l {
		l[i] = m.below(most)
	}
	return l
}

// chunk makes the 96 bytes of a chunk by the words of chapter 8, with the library's CRC-32C.
func chunk(id int, data []byte) []byte {
	head := []byte{183, byte(len(data)), 0, 0, byte(id >> 24), byte(id >> 16), byte(id >> 8), byte(id)}
	both := append(slices.Clone(head), data...)
	b := binary.BigEndian.AppendUint32(head, crc32.Checksum(both, crc32.MakeTable(crc32.Castagnoli)))
	b = append(b, data...)
	return append(b, make([]byte, 96-len(b))...)
}

// strange are numbers of disks that no Rack has, and of slots that no disk has.
func strange() []int {
	return []int{math.MinInt, math.MinInt + 1, -1 << 32, -64, -24, -3, -2, -1, 64, 65, 96, 127, 128, 255, 256, 1 << 16, 1 << 32, 1 << 62, math.MaxInt - 1, math.MaxInt}
}

// spent makes a Fuse that is dead.
func spent() *disk.Fuse {
	f := disk.NewFuse(1)
	f.Spend()
	return f
}

// of makes a Rack.
func of(t *testing.T, disks, slots int, f *disk.Fuse) *rack.Rack {
	t.Helper()
	r, e := rack.New(disks, slots, f)
	if e != api.OK || r == nil {
		t.Fatalf("New(%d, %d): %v", disks, slots, e)
	}
	return r
}

// leaving makes a Rack of disks of slots, of which so many are free.
func leaving(t *testing.T, slots int, free ...int) *rack.Rack {
	t.Helper()
	r := of(t, len(free), slots, nil)
	for d, n := range free {
		for range slots - n {
			takes(t, "leaving", r, d)
		}
	}
	return r
}

// places tells whether Place answers just these.
func places(t *testing.T, name string, r *rack.Rack, n, class int, avoid, want []int) {
	t.Helper()
	if got, ok := r.Place(n, class, avoid); !ok || !slices.Equal(got, want) {
		t.Fatalf("%s: Place(%d, %d, %v) = %v, %v, want %v, true", name, n, class, avoid, got, ok, want)
	}
}

// placesNot tells whether Place is false.
func placesNot(t *testing.T, name string, r *rack.Rack, n, class int, avoid []int) {
	t.Helper()
	if got, ok := r.Place(n, class, avoid); ok || len(got) != 0 {
		t.Fatalf("%s: Place(%d, %d, %v) = %v, %v, want none, false", name, n, class, avoid, got, ok)
	}
}

// takes tells what Take answers of disks that have room.
func takes(t *testing.T, name string, r *rack.Rack, disks ...int) []api.Loc {
	t.Helper()
	locs, ok := r.Take(disks)
	if !ok || len(locs) != len(disks) {
		t.Fatalf("%s: Take(%v) = %v, %v", name, disks, locs, ok)
	}
	return locs
}

// takesNot tells whether Take is false, and has changed nothing.
func takesNot(t *testing.T, name string, r *rack.Rack, disks ...int) {
	t.Helper()
	used, next := usedOf(r), r.Next()
	if locs, ok := r.Take(disks); ok || len(locs) != 0 {
		t.Fatalf("%s: Take(%v) = %v, %v, want none, false", name, disks, locs, ok)
	}
	has(t, name, r, next, used)
}

// usedOf tells which slots of each disk are used.
func usedOf(r *rack.Rack) [][]int {
	var used [][]int
	for d := range r.Size() {
		used = append(used, r.Bay(d).Used())
	}
	return used
}

// has tells whether just these slots are used, and which id is next.
func has(t *testing.T, name string, r *rack.Rack, next int, used [][]int) {
	t.Helper()
	if got := r.Next(); got != next {
		t.Fatalf("%s: Next = %d, want %d", name, got, next)
	}
	if got := usedOf(r); !slices.EqualFunc(got, used, slices.Equal[[]int]) {
		t.Fatalf("%s: used are %v, want %v", name, got, used)
	}
}

// puts puts what may be put.
func puts(t *testing.T, r *rack.Rack, l api.Loc, data []byte) {
	t.Helper()
	if e := r.Put(l, data); e != api.OK {
		t.Fatalf("Put(%v, %x): %v", l, data, e)
	}
}

// putsNot tells whether Put answers want.
func putsNot(t *testing.T, name string, r *rack.Rack, l api.Loc, data []byte, want api.Errno) {
	t.Helper()
	if e := r.Put(l, data); e != want {
		t.Fatalf("%s: Put(%v, %d bytes) = %v, want %v", name, l, len(data), e, want)
	}
}

// gets tells whether Get answers data.
func gets(t *testing.T, name string, r *rack.Rack, l api.Loc, want []byte) {
	t.Helper()
	if got, e := r.Get(l); e != api.OK || !bytes.Equal(got, want) {
		t.Fatalf("%s: Get(%v) = %x, %v, want %x, OK", name, l, got, e, want)
	}
}

// getsNot tells whether Get answers want, and nothing beside it.
func getsNot(t *testing.T, name string, r *rack.Rack, l api.Loc, want api.Errno) {
	t.Helper()
	if got, e := r.Get(l); e != want || len(got) != 0 {
		t.Fatalf("%s: Get(%v) = %x, %v, want nothing, %v", name, l, got, e, want)
	}
}

// pending tells how many writes are pending on each disk.
func pending(r *rack.Rack) []int {
	var l []int
	for d := range r.Size() {
		l = append(l, r.Bay(d).Disk().Pending())
	}
	return l
}

// isPending tells whether so many writes are pending on each disk.
func isPending(t *testing.T, name string, r *rack.Rack, want ...int) {
	t.Helper()
	if got := pending(r); !slices.Equal(got, want) {
		t.Fatalf("%s: %v writes are pending, want %v", name, got, want)
	}
}

// smear writes over all of l, its spare room too.
func smear[T any](l []T, by T) {
	all := l[:cap(l)]
	for i := range all {
		all[i] = by
	}
}

// Promise 10.1: New, Size, Live and Bay.

func TestNewRefuses(t *testing.T) {
	numbers := append(strange(), 0, 1, 2, 23, 24, 25, 26, 48, 63)
	for _, disks := range numbers {
		for _, slots := range numbers {
			r, e := rack.New(disks, slots, nil)
			if disks >= 1 && disks <= 24 && slots >= 1 && slots <= 64 {
				if r == nil || e != api.OK {
					t.Errorf("New(%d, %d): %v", disks, slots, e)
				}
			} else if r != nil || e != api.ErrArg {
				t.Errorf("New(%d, %d) = %v, %v, want nil, ErrArg", disks, slots, r, e)
			}
		}
	}
}

func TestNewOfEachSize(t *testing.T) {
	for disks := 1; disks <= 24; disks++ {
		for slots := 1; slots <= 64; slots++ {
			r := of(t, disks, slots, nil)
			if r.Size() != disks || r.Live() != disks || r.Next() != 1 {
				t.Fatalf("of %d: Size = %d, Live = %d, Next = %d", disks, r.Size(), r.Live(), r.Next())
			}
			for d := range disks {
				b := r.Bay(d)
				if b == nil || b.Free() != slots || len(b.Used()) != 0 || b.Disk().Slots() != slots || !b.Disk().Live() || b.Disk().Pending() != 0 || len(b.Scan()) != 0 {
					t.Fatalf("of %d, %d: disk %d is another", disks, slots, d)
				}
			}
		}
	}
}

func TestBayOfNone(t *testing.T) {
	for _, disks := range []int{1, 2, 7, 24} {
		r := of(t, disks, 2, nil)
		for _, d := range append(strange(), disks, disks+1, disks+3) {
			if r.Bay(d) != nil {
				t.Errorf("of %d: Bay(%d) is there", disks, d)
			}
		}
	}
}

// Each disk has a Bay, and a Disk, of its own, and they stay the same.
func TestBaysAreApart(t *testing.T) {
	r := of(t, 24, 2, nil)
	bays, disks := map[*bay.Bay]int{}, map[*disk.Disk]int{}
	for d := range 24 {
		bays[r.Bay(d)], disks[r.Bay(d).Disk()] = d, d
	}
	if len(bays) != 24 || len(disks) != 24 {
		t.Fatalf("%d Bays, %d Disks", len(bays), len(disks))
	}
	r.Take([]int{5, 6})
	r.Bay(5).Disk().Fail()
	r.Reset(9)
	r.Bay(6).Disk().Replace()
	for d := range 24 {
		if bays[r.Bay(d)] != d || disks[r.Bay(d).Disk()] != d {
			t.Fatalf("disk %d is another", d)
		}
	}
}

func TestRacksAreApart(t *testing.T) {
	one, other := of(t, 3, 2, nil), of(t, 3, 2, nil)
	l := takes(t, "one", one, 0, 1)
	puts(t, one, l[0], []byte{1})
	one.Bay(2).Disk().Fail()
	has(t, "the other", other, 1, [][]int{{}, {}, {}})
	getsNot(t, "the other", other, l[0], api.ErrNone)
	if other.Live() != 3 || one.Live() != 2 {
		t.Errorf("Live = %d and %d", one.Live(), other.Live())
	}
}

func TestLive(t *testing.T) {
	r := of(t, 7, 1, nil)
	for set := range 1 << 7 {
		live := 0
		for d := range 7 {
			if set>>d&1 == 0 {
				r.Bay(d).Disk().Fail()
			} else {
				r.Bay(d).Disk().Replace()
				live++
			}
		}
		if r.Live() != live || r.Size() != 7 {
			t.Fatalf("set %b: Live = %d, want %d; Size = %d", set, r.Live(), live, r.Size())
		}
	}
}

// One Fuse is the power of all the disks.
func TestOnePower(t *testing.T) {
	for k := 1; k < 12; k++ {
		f := disk.NewFuse(k)
		r := of(t, 4, 3, f)
		var locs []api.Loc
		for i := range 12 {
			locs = append(locs, takes(t, "all", r, i%4)...)
		}
		for i, l := range locs {
			if i < k {
				puts(t, r, l, []byte{byte(i)})
			} else {
				putsNot(t, "no power", r, l, nil, api.ErrDead)
				getsNot(t, "no power", r, l, api.ErrNone)
			}
		}
		if e := r.Sync(); e != api.ErrDead {
			t.Fatalf("Fuse of %d: Sync = %v", k, e)
		}
		f.Set(0)
		for _, l := range locs {
			puts(t, r, l, []byte{1})
		}
	}
}

// What may not be put, and all that puts nothing, spends no power.
func TestWhatSpendsNoPower(t *testing.T) {
	f := disk.NewFuse(1)
	r := of(t, 3, 2, f)
	l := takes(t, "first", r, 1, 2)
	r.Place(2, -1, nil)
	r.Hold(api.Loc{Disk: 0, Slot: 1, ID: 9})
	r.Give(l[1])
	r.Put(l[1], nil)
	r.Put(api.Loc{Disk: 3, ID: 1}, nil)
	r.Put(l[0], make([]byte, 65))
	r.Get(l[0])
	r.Sync()
	r.Reset(1)
	r.Take([]int{1})
	if f.Dead() {
		t.Fatal("power was spent")
	}
	puts(t, r, l[0], nil)
	if !f.Dead() {
		t.Fatal("no power was spent")
	}
}

// Promise 10.1: Place.

func TestExample(t *testing.T) {
	places(t, "of 6 alike", of(t, 6, 1, nil), 2, 0, nil, []int{0, 3})
}

// Of disks that are alike the least numbers are told, of each class, as many as there are.
func TestPlaceOfAlike(t *testing.T) {
	for disks := 1; disks <= 24; disks++ {
		r := of(t, disks, 1+disks%4, nil)
		for class := -3; class <= 5; class++ {
			var all []int
			for d := range disks {
				if class < 0 || d%3 == class {
					all = append(all, d)
				}
			}
			for n := range all {
				places(t, "alike", r, n, class, nil, all[:n])
			}
			places(t, "all", r, len(all), class, nil, all)
			for _, n := range []int{len(all) + 1, len(all) + 2, 25, math.MaxInt, -1, -2, math.MinInt} {
				placesNot(t, "not so many", r, n, class, nil)
			}
		}
	}
}

func TestPlaceOfStrangeClasses(t *testing.T) {
	r := of(t, 5, 2, nil)
	for _, class := range []int{3, 4, 5, 6, 24, 255, 256, 1 << 32, 1<<32 + 1, math.MaxInt} {
		places(t, "none of them", r, 0, class, nil, nil)
		for _, n := range []int{1, 2, 5, math.MaxInt, -1, math.MinInt} {
			placesNot(t, "none of them", r, n, class, nil)
		}
	}
	for _, class := range []int{-1, -2, -3, -4, -256, math.MinInt} {
		places(t, "any", r, 5, class, nil, []int{0, 1, 2, 3, 4})
		placesNot(t, "any", r, 6, class, nil)
	}
}

// order tells what Place is to answer, by picking the best disk of those left again and again; false, if there are not n.
func order(free []int, live []bool, n, class int, avoid []int) ([]int, bool) {
	left := map[int]int{}
	for d, slots := range free {
		if live[d] && slots >= 1 && (class < 0 || d-d/3*3 == class) {
			left[d] = slots
		}
	}
	for _, d := range avoid {
		delete(left, d)
	}
	if n < 0 || len(left) < n {
		return nil, false
	}
	var l []int
	for range n {
		best := -1
		for d := range free {
			if left[d] > 0 && (best < 0 || left[d] > left[best]) {
				best = d
			}
		}
		l = append(l, best)
		delete(left, best)
	}
	return l, true
}

// Of all ways in which four disks of three slots may be used, with each of their sets avoided.
func TestPlaceOfAllWays(t *testing.T) {
	for way := range 256 {
		free := []int{way & 3, way >> 2 & 3, way >> 4 & 3, way >> 6}
		r := leaving(t, 3, free...)
		used, next := usedOf(r), r.Next()
		for set := range 16 {
			var avoid []int
			for d := range 4 {
				if set>>d&1 == 1 {
					avoid = append(avoid, d)
				}
			}
			for class := -1; class <= 3; class++ {
				for n := -1; n <= 5; n++ {
					if want, ok := order(free, []bool{true, true, true, true}, n, class, avoid); ok {
						places(t, "way", r, n, class, avoid, want)
					} else {
						placesNot(t, "way", r, n, class, avoid)
					}
				}
			}
		}
		has(t, "Place takes nothing", r, next, used)
	}
}

// Of as many as there are the least number is first, wherever they stand.
func TestPlaceOfMany(t *testing.T) {
	for script := range 300 {
		mix := mixer(script)
		count, slots := 1+mix.below(24), 1+mix.below(64)
		free := mix.some(count, min(slots+1, 1+mix.below(65)))
		r := leaving(t, slots, free...)
		live := make([]bool, count)
		for d := range live {
			live[d] = mix.below(5) > 0
			if !live[d] {
				r.Bay(d).Disk().Fail()
			}
		}
		for range 60 {
			n, class, avoid := mix.below(count+2), mix.below(5)-1, mix.some(mix.below(6), 30)
			if want, ok := order(free, live, n, class, avoid); ok {
				places(t, "many", r, n, class, avoid, want)
			} else {
				placesNot(t, "many", r, n, class, avoid)
			}
		}
	}
}

func TestPlaceAvoids(t *testing.T) {
	r := of(t, 7, 2, nil)
	for _, avoid := range [][]int{nil, {}, {7}, strange(), {99, -1, 24}} {
		places(t, "none of them", r, 7, -1, avoid, []int{0, 1, 2, 3, 4, 5, 6})
	}
	places(t, "two", r, 5, -1, []int{4, 1}, []int{0, 2, 3, 5, 6})
	places(t, "one, often", r, 6, -1, []int{4, 4, 4, 4, 4, 4, 4, 4}, []int{0, 1, 2, 3, 5, 6})
	places(t, "among others", r, 6, -1, append(strange(), 0), []int{1, 2, 3, 4, 5, 6})
	places(t, "of another class", r, 2, 1, []int{0, 2, 3, 5, 6}, []int{1, 4})
	places(t, "all", r, 0, -1, []int{6, 5, 4, 3, 2, 1, 0}, nil)
	placesNot(t, "all", r, 1, -1, []int{6, 5, 4, 3, 2, 1, 0})
	placesNot(t, "all of a class", r, 1, 2, []int{2, 5})
	long := make([]int, 100000)
	for i := range long {
		long[i] = 3 - i%2
	}
	places(t, "a long row", r, 5, -1, long, []int{0, 1, 4, 5, 6})
}

func TestPlaceOfDisksThatAreNotLive(t *testing.T) {
	r := leaving(t, 4, 1, 4, 2, 3)
	places(t, "all live", r, 4, -1, nil, []int{1, 3, 2, 0})
	r.Bay(1).Disk().Fail()
	places(t, "one is not", r, 3, -1, nil, []int{3, 2, 0})
	placesNot(t, "one is not", r, 4, -1, nil)
	placesNot(t, "one is not", r, 1, 1, nil)
	r.Bay(3).Disk().Fail()
	places(t, "two are not", r, 2, -1, nil, []int{2, 0})
	r.Bay(1).Disk().Replace()
	places(t, "one is replaced", r, 3, -1, nil, []int{1, 2, 0})
	for d := range 4 {
		r.Bay(d).Disk().Fail()
	}
	places(t, "none is live", r, 0, -1, nil, nil)
	placesNot(t, "none is live", r, 1, -1, nil)
}

// What its Bay is asked by others counts, too.
func TestPlaceAsksTheBays(t *testing.T) {
	r := of(t, 3, 3, nil)
	r.Bay(0).Take()
	r.Bay(0).Hold(2)
	r.Bay(1).Hold(1)
	places(t, "held", r, 3, -1, nil, []int{2, 1, 0})
	for slot := range 3 {
		r.Bay(2).Hold(slot)
	}
	places(t, "full", r, 2, -1, nil, []int{1, 0})
	placesNot(t, "full", r, 3, -1, nil)
	r.Bay(0).Give(0)
	r.Bay(0).Give(2)
	places(t, "given", r, 2, -1, nil, []int{0, 1})
}

func TestPlaceIsNewMemory(t *testing.T) {
	r := of(t, 6, 2, nil)
	room := []int{4, 5, 0, 1, 2, 3}
	was := slices.Clone(room)
	one, _ := r.Place(3, -1, room[:1])
	other, _ := r.Place(3, -1, room[:1])
	if !slices.Equal(room, was) {
		t.Fatalf("Place changed what was handed in, or its spare room: %v", room)
	}
	smear(one, 9)
	smear(room, 1)
	if !slices.Equal(other, []int{0, 1, 2}) {
		t.Fatalf("what Place told shares memory: %v", other)
	}
	places(t, "behind a change of what was answered", r, 4, -1, was[:1], []int{0, 1, 2, 3})
}

// Promise 10.1: Take.

func TestTakeTellsLocs(t *testing.T) {
	r := of(t, 5, 3, nil)
	id := 0
	for _, x := range []struct {
		disks, slots []int
	}{
		{[]int{3, 0, 4}, []int{0, 0, 0}},
		{[]int{0}, []int{1}},
		{nil, nil},
		{[]int{}, nil},
		{[]int{4, 3, 2, 1, 0}, []int{1, 1, 0, 0, 2}},
		{[]int{1, 2}, []int{1, 1}},
		{[]int{2, 4, 1, 3}, []int{2, 2, 2, 2}},
	} {
		var want []api.Loc
		for i, d := range x.disks {
			id++
			want = append(want, api.Loc{Disk: d, Slot: x.slots[i], ID: id})
		}
		if got, ok := r.Take(x.disks); !ok || !slices.Equal(got, want) {
			t.Fatalf("Take(%v) = %v, %v, want %v", x.disks, got, ok, want)
		}
		if r.Next() != id+1 {
			t.Fatalf("Next = %d, want %d", r.Next(), id+1)
		}
	}
	all := [][]int{{0, 1, 2}, {0, 1, 2}, {0, 1, 2}, {0, 1, 2}, {0, 1, 2}}
	has(t, "all", r, id+1, all)
	for d := range 5 {
		takesNot(t, "all", r, d)
	}
	if got, ok := r.Take(nil); !ok || len(got) != 0 {
		t.Errorf("Take of none = %v, %v", got, ok)
	}
}

func TestTakeOfAllSizes(t *testing.T) {
	for disks := 1; disks <= 24; disks++ {
		r := of(t, disks, 64, nil)
		var row []int
		for d := range disks {
			row = append(row, d)
		}
		slices.Reverse(row)
		for slot := range 64 {
			for i, l := range takes(t, "all", r, row...) {
				if want := (api.Loc{Disk: row[i], Slot: slot, ID: 1 + slot*disks + i}); l != want {
					t.Fatalf("of %d: took %v, want %v", disks, l, want)
				}
			}
		}
		takesNot(t, "full", r, row...)
	}
}

// Wherever in the row stands what may not be taken, nothing is.
func TestTakeRefuses(t *testing.T) {
	r := leaving(t, 2, 2, 1, 0, 2, 1, 2, 2)
	good := []int{5, 0, 3, 1}
	for at := range len(good) + 1 {
		for _, d := range append(strange(), 7, 8) {
			takesNot(t, "no disk", r, slices.Insert(slices.Clone(good), at, d)...)
		}
		takesNot(t, "no free slot", r, slices.Insert(slices.Clone(good), at, 2)...)
		for _, d := range good {
			takesNot(t, "twice", r, slices.Insert(slices.Clone(good), at, d)...)
		}
		takesNot(t, "no disk, twice", r, slices.Insert(slices.Clone(good), at, 7, 7)...)
	}
	takesNot(t, "one of none", r, 2)
	takesNot(t, "only twice", r, 0, 0)
	takesNot(t, "thrice", r, 0, 0, 0)
	takesNot(t, "the last free slot, twice", r, 4, 4)
	next := r.Next()
	for i, l := range takes(t, "behind them", r, good...) {
		if want := (api.Loc{Disk: good[i], Slot: []int{0, 0, 0, 1}[i], ID: next + i}); l != want {
			t.Errorf("behind them: took %v, want %v", l, want)
		}
	}
}

func TestTakeOfLongRows(t *testing.T) {
	r := of(t, 24, 64, nil)
	for _, n := range []int{25, 26, 100, 1 << 20} {
		row := make([]int, n)
		for i := range row {
			row[i] = i % 24
		}
		takesNot(t, "a long row", r, row...)
		for i := range row {
			row[i] = i
		}
		takesNot(t, "a long row of disks that are none", r, row...)
	}
}

// Take asks for free slots alone; that a disk is live is asked by Place.
func TestTakeOfDisksThatAreNotLive(t *testing.T) {
	r := of(t, 3, 2, nil)
	r.Bay(1).Disk().Fail()
	l := takes(t, "not live", r, 2, 1)
	if want := []api.Loc{{Disk: 2, Slot: 0, ID: 1}, {Disk: 1, Slot: 0, ID: 2}}; !slices.Equal(l, want) {
		t.Fatalf("Take = %v, want %v", l, want)
	}
	putsNot(t, "not live", r, l[1], nil, api.ErrGone)
	takes(t, "not live", r, 1)
	takesNot(t, "not live, full", r, 1)
	r.Bay(1).Disk().Replace()
	has(t, "replaced", r, 4, [][]int{{}, {0, 1}, {0}})
}

// A slot that is given back is the least again, under a new id.
func TestTakeOfWhatWasGivenBack(t *testing.T) {
	r := of(t, 2, 3, nil)
	first := takes(t, "first", r, 1)[0]
	takes(t, "second", r, 1)
	puts(t, r, first, []byte{1})
	r.Give(first)
	again := takes(t, "again", r, 1)[0]
	if want := (api.Loc{Disk: 1, Slot: 0, ID: 3}); again != want {
		t.Fatalf("took %v, want %v", again, want)
	}
	getsNot(t, "what is there is another's", r, again, api.ErrNone)
	gets(t, "what is there", r, first, []byte{1})
	puts(t, r, again, []byte{2})
	getsNot(t, "written over", r, first, api.ErrNone)
}

func TestTakeIsNewMemory(t *testing.T) {
	r := of(t, 4, 2, nil)
	room := []int{2, 0, 3, 1}
	was := slices.Clone(room)
	one := takes(t, "one", r, room[:2]...)
	other := takes(t, "other", r, room[:2]...)
	takesNot(t, "full", r, room[:3]...)
	if !slices.Equal(room, was) {
		t.Fatalf("Take changed what was handed in, or its spare room: %v", room)
	}
	smear(one, api.Loc{})
	smear(room, 1)
	if want := []api.Loc{{Disk: 2, Slot: 1, ID: 3}, {Disk: 0, Slot: 1, ID: 4}}; !slices.Equal(other, want) {
		t.Fatalf("what Take told shares memory: %v", other)
	}
	has(t, "behind a change of what was answered", r, 5, [][]int{{0, 1}, {}, {0, 1}, {}})
}

// Promise 10.1: Reset and Next.

func TestReset(t *testing.T) {
	for _, x := range []struct{ next, want int }{{math.MinInt, 1}, {-1, 1}, {0, 1}, {1, 1}, {2, 2}, {9, 9}, {1<<31 - 1, 1<<31 - 1}, {1 << 40, 1 << 40}, {math.MaxInt, math.MaxInt}} {
		r := leaving(t, 4, 0, 1, 2, 3, 4)
		r.Bay(0).Disk().Fail()
		r.Bay(3).Hold(3)
		for range 2 {
			r.Reset(x.next)
			has(t, "Reset", r, x.want, [][]int{{}, {}, {}, {}, {}})
			if r.Live() != 4 || r.Size() != 5 {
				t.Fatalf("Reset(%d): Live = %d, Size = %d", x.next, r.Live(), r.Size())
			}
		}
		places(t, "Reset", r, 4, -1, nil, []int{1, 2, 3, 4})
		if l := takes(t, "Reset", r, 3)[0]; l != (api.Loc{Disk: 3, Slot: 0, ID: x.want}) {
			t.Fatalf("Reset(%d): took %v", x.next, l)
		}
	}
}

// What is on the disks stays, pending or not.
func TestResetLeavesTheDisks(t *testing.T) {
	r := of(t, 2, 2, nil)
	l := takes(t, "first", r, 0, 1)
	puts(t, r, l[0], []byte{1})
	r.Sync()
	puts(t, r, l[1], []byte{2})
	r.Reset(1)
	gets(t, "synced", r, l[0], []byte{1})
	gets(t, "pending", r, l[1], []byte{2})
	isPending(t, "behind a Reset", r, 0, 1)
	putsNot(t, "not used any more", r, l[0], []byte{3}, api.ErrArg)
	again := takes(t, "again", r, 1, 0)
	if want := []api.Loc{{Disk: 1, Slot: 0, ID: 1}, {Disk: 0, Slot: 0, ID: 2}}; !slices.Equal(again, want) {
		t.Fatalf("took %v, want %v", again, want)
	}
}

func TestNextCountsOn(t *testing.T) {
	r := of(t, 2, 64, nil)
	for i := range 60 {
		if r.Next() != 1+2*i {
			t.Fatalf("Next = %d, want %d", r.Next(), 1+2*i)
		}
		r.Place(1, -1, nil)
		r.Get(api.Loc{Disk: 0, ID: 999})
		r.Put(api.Loc{Disk: 0, ID: 999}, nil)
		l := takes(t, "two", r, 1, 0)
		if l[0].ID != 1+2*i || l[1].ID != 2+2*i {
			t.Fatalf("took %v", l)
		}
		r.Give(l[i%2])
		r.Sync()
	}
}

// Promise 10.1: Hold and Give.

func TestHoldTellsTheNextID(t *testing.T) {
	for _, x := range []struct{ next, id, want int }{
		{1, 1, 2}, {1, 2, 3}, {1, 50, 51}, {1, 0, 1}, {1, -1, 1}, {1, math.MinInt, 1},
		{5, 3, 5}, {5, 4, 5}, {5, 5, 6}, {5, 6, 7}, {5, 1<<31 - 1, 1 << 31}, {5, 1<<32 - 1, 1 << 32},
		{5, math.MaxInt - 1, math.MaxInt}, {math.MaxInt, 7, math.MaxInt},
	} {
		r := of(t, 2, 3, nil)
		r.Reset(x.next)
		l := api.Loc{Disk: 1, Slot: 1, ID: x.id}
		if !r.Hold(l) {
			t.Fatalf("Hold(%v) = false", l)
		}
		has(t, "held", r, x.want, [][]int{{}, {1}})
		if r.Hold(l) || r.Hold(api.Loc{Disk: 1, Slot: 1, ID: 1 << 50}) {
			t.Fatalf("Hold(%v) once more = true", l)
		}
		has(t, "held once more", r, x.want, [][]int{{}, {1}})
		if got := takes(t, "behind it", r, 1)[0]; got != (api.Loc{Disk: 1, Slot: 0, ID: x.want}) {
			t.Fatalf("took %v, want id %d", got, x.want)
		}
	}
}

func TestHoldOfManyIsAboveAll(t *testing.T) {
	mix := mixer(4)
	for range 100 {
		r := of(t, 3, 5, nil)
		greatest := 0
		used := [][]int{nil, nil, nil}
		for d := range 3 {
			for slot := range 5 {
				if mix.below(2) == 0 {
					id := 1 + mix.below(1000)
					if !r.Hold(api.Loc{Disk: d, Slot: slot, ID: id}) {
						t.Fatal("Hold = false")
					}
					greatest = max(greatest, id)
					used[d] = append(used[d], slot)
				}
			}
		}
		has(t, "held", r, greatest+1, used)
	}
}

func TestHoldAndGiveOfNone(t *testing.T) {
	r := leaving(t, 2, 1, 2, 0)
	used, next := usedOf(r), r.Next()
	refused := func(l api.Loc) {
		t.Helper()
		if r.Hold(l) || r.Give(l) {
			t.Fatalf("Hold or Give of %v = true", l)
		}
		has(t, "none", r, next, used)
	}
	for _, x := range strange() {
		for y := range 3 {
			refused(api.Loc{Disk: x, Slot: y, ID: 1000})
			refused(api.Loc{Disk: y, Slot: x, ID: 1000})
		}
		refused(api.Loc{Disk: x, Slot: x, ID: x})
	}
	refused(api.Loc{Disk: 3, Slot: 0, ID: 1000})
	refused(api.Loc{Disk: 1, Slot: 2, ID: 1000})
}

// A slot is given back whatever the id is, and ids go on.
func TestGive(t *testing.T) {
	for _, id := range []int{1, 0, -1, 77, math.MinInt, math.MaxInt} {
		r := of(t, 2, 3, nil)
		takes(t, "first", r, 1)
		takes(t, "second", r, 1)
		l := api.Loc{Disk: 1, Slot: 0, ID: id}
		if !r.Give(l) {
			t.Fatalf("Give(%v) = false", l)
		}
		has(t, "given", r, 3, [][]int{{}, {1}})
		for _, other := range []api.Loc{l, {Disk: 1, Slot: 2, ID: id}, {Disk: 0, Slot: 1, ID: id}} {
			if r.Give(other) {
				t.Fatalf("Give(%v), not used, = true", other)
			}
			has(t, "not used", r, 3, [][]int{{}, {1}})
		}
		if !r.Hold(api.Loc{Disk: 1, Slot: 0, ID: 2}) {
			t.Fatal("Hold of what was given back = false")
		}
		has(t, "held again", r, 3, [][]int{{}, {0, 1}})
	}
}

func TestHoldAndGiveOfDisksThatAreNotLive(t *testing.T) {
	r := of(t, 2, 2, spent())
	r.Bay(0).Disk().Fail()
	l := api.Loc{Disk: 0, Slot: 1, ID: 8}
	if !r.Hold(l) || r.Hold(l) {
		t.Fatal("Hold of a disk that is not live")
	}
	has(t, "not live", r, 9, [][]int{{1}, {}})
	if !r.Give(l) || r.Give(l) {
		t.Fatal("Give of a disk that is not live")
	}
	has(t, "not live", r, 9, [][]int{{}, {}})
}

// Behind the greatest number there is no id: what was told ahead of it never is told anew.
func TestIDsNeverBeginAnew(t *testing.T) {
	r := of(t, 3, 4, nil)
	l := takes(t, "first", r, 0)[0]
	puts(t, r, l, []byte{1})
	r.Give(l)
	if !r.Hold(api.Loc{Disk: 1, Slot: 3, ID: math.MaxInt}) {
		t.Fatal("Hold = false")
	}
	for range 2 {
		for _, x := range takes(t, "behind the greatest", r, 0, 1, 2) {
			if x.ID <= 1<<32-1 {
				t.Fatalf("took %v", x)
			}
			putsNot(t, "behind the greatest", r, x, nil, api.ErrArg)
			getsNot(t, "behind the greatest", r, x, api.ErrNone)
		}
		r.Hold(api.Loc{Disk: 2, Slot: 3, ID: 5})
		if r.Next() < 1<<32 {
			t.Fatalf("Next = %d", r.Next())
		}
	}
	r.Reset(4)
	if x := takes(t, "Reset", r, 2)[0]; x != (api.Loc{Disk: 2, Slot: 0, ID: 4}) {
		t.Fatalf("took %v", x)
	}
}

// Promise 10.1: Put and Get.

func TestPutIsAFrame(t *testing.T) {
	mix := mixer(1)
	r := of(t, 5, 4, nil)
	for n := range 65 {
		for _, id := range []int{1, 2, 255, 256, 1 << 16, 1<<31 - 1, 1<<32 - 1, 1 + mix.below(1<<31)} {
			l := api.Loc{Disk: mix.below(5), Slot: mix.below(4), ID: id}
			r.Hold(l)
			data := mix.bytes(n)
			was := pending(r)
			puts(t, r, l, data)
			if got, e := r.Bay(l.Disk).Disk().Read(l.Slot); e != api.OK || !bytes.Equal(got, chunk(id, data)) {
				t.Fatalf("Put(%v, %x) made %x, %v", l, data, got, e)
			}
			was[l.Disk]++
			isPending(t, "one more", r, was...)
			gets(t, "at once", r, l, data)
			getsNot(t, "another id", r, api.Loc{Disk: l.Disk, Slot: l.Slot, ID: id + 1}, api.ErrNone)
		}
	}
}

// Each disk and slot has what was put there, and no other has.
func TestPutOfEachPlace(t *testing.T) {
	r := of(t, 24, 64, nil)
	for d := range 24 {
		for slot := range 64 {
			l := api.Loc{Disk: d, Slot: slot, ID: 1}
			getsNot(t, "noughts", r, l, api.ErrNone)
			r.Hold(l)
			puts(t, r, l, []byte{byte(d), byte(slot)})
		}
	}
	for d := range 24 {
		for slot := range 64 {
			gets(t, "each", r, api.Loc{Disk: d, Slot: slot, ID: 1}, []byte{byte(d), byte(slot)})
		}
	}
}

// Where several errors apply the first is answered: of no disk, of no slot, and what the Disk tells.
func TestPutAndGetErrorsInOrder(t *testing.T) {
	for _, x := range []struct {
		live, power bool
		put, get    api.Errno
	}{
		{true, true, api.OK, api.ErrNone},
		{true, false, api.ErrDead, api.ErrNone},
		{false, true, api.ErrGone, api.ErrGone},
		{false, false, api.ErrGone, api.ErrGone},
	} {
		f := disk.NewFuse(0)
		if !x.power {
			f = spent()
		}
		r := of(t, 3, 2, f)
		l := takes(t, "first", r, 1)[0]
		if !x.live {
			r.Bay(1).Disk().Fail()
		}
		for _, d := range append(strange(), 3, 4, 5) {
			for _, slot := range []int{0, 1, 2, -1} {
				for _, id := range []int{1, -1, 1 << 32} {
					none := api.Loc{Disk: d, Slot: slot, ID: id}
					putsNot(t, "no disk", r, none, []byte{1}, api.ErrArg)
					putsNot(t, "no disk", r, none, make([]byte, 65), api.ErrArg)
					getsNot(t, "no disk", r, none, api.ErrArg)
				}
			}
		}
		for _, slot := range append(strange(), 2, 3) {
			none := api.Loc{Disk: 1, Slot: slot, ID: 1}
			putsNot(t, "no slot", r, none, []byte{1}, api.ErrArg)
			getsNot(t, "no slot", r, none, api.ErrArg)
		}
		putsNot(t, "not used", r, api.Loc{Disk: 1, Slot: 1, ID: 1}, []byte{1}, api.ErrArg)
		putsNot(t, "no id", r, api.Loc{Disk: 1, Slot: 0, ID: -1}, []byte{1}, api.ErrArg)
		putsNot(t, "no id", r, api.Loc{Disk: 1, Slot: 0, ID: 1 << 32}, []byte{1}, api.ErrArg)
		putsNot(t, "too much data", r, l, make([]byte, 65), api.ErrArg)
		isPending(t, "refused", r, 0, 0, 0)
		getsNot(t, "refused", r, l, x.get)
		getsNot(t, "refused, no id", r, api.Loc{Disk: 1, Slot: 0, ID: -1}, x.get)
		putsNot(t, "what may be put", r, l, []byte{1}, x.put)
	}
}

// Put asks that the slot is used, not that this id was taken for it.
func TestPutOfAnotherID(t *testing.T) {
	r := of(t, 1, 1, nil)
	l := takes(t, "first", r, 0)[0]
	puts(t, r, l, []byte{1})
	other := api.Loc{Disk: 0, Slot: 0, ID: 40}
	puts(t, r, other, []byte{2})
	gets(t, "another id", r, other, []byte{2})
	getsNot(t, "its own", r, l, api.ErrNone)
	has(t, "behind them", r, 2, [][]int{{0}})
}

func TestPutAndGetKeepNothing(t *testing.T) {
	mix := mixer(2)
	for n := range 65 {
		r := of(t, 1, 1, nil)
		l := takes(t, "first", r, 0)[0]
		room := mix.bytes(128)
		was := slices.Clone(room)
		puts(t, r, l, room[:n])
		r.Put(l, room[:65])
		if !bytes.Equal(room, was) {
			t.Fatalf("Put of %d bytes changed what was handed in, or its spare room", n)
		}
		smear(room, 3)
		one, _ := r.Get(l)
		other, _ := r.Get(l)
		smear(one, 4)
		if !bytes.Equal(other, was[:n]) {
			t.Fatalf("what Get told of %d bytes shares memory", n)
		}
		gets(t, "behind a change of what was answered", r, l, was[:n])
	}
}

func TestNilIsEmpty(t *testing.T) {
	r := of(t, 2, 1, nil)
	l := takes(t, "both", r, 0, 1)
	puts(t, r, l[0], nil)
	puts(t, r, l[1], []byte{})
	gets(t, "nil", r, l[0], nil)
	gets(t, "none", r, l[1], nil)
}

// Promise 10.1: Sync.

// syncs tells whether Sync answers want.
func syncs(t *testing.T, name string, r *rack.Rack, want api.Errno) {
	t.Helper()
	if e := r.Sync(); e != want {
		t.Fatalf("%s: Sync = %v, want %v", name, e, want)
	}
}

func TestSyncIsOfEachLiveDisk(t *testing.T) {
	for set := range 1 << 5 {
		r := of(t, 5, 2, nil)
		locs := takes(t, "all", r, 0, 1, 2, 3, 4)
		var want []int
		for d, l := range locs {
			for range d + 1 {
				puts(t, r, l, []byte{byte(d)})
			}
			if set>>d&1 == 1 {
				r.Bay(d).Disk().Fail()
				want = append(want, d+1)
			} else {
				want = append(want, 0)
			}
		}
		syncs(t, "set", r, api.OK)
		isPending(t, "set", r, want...)
		for d, l := range locs {
			r.Bay(d).Disk().Crash(0, 0)
			if set>>d&1 == 0 {
				gets(t, "synced", r, l, []byte{byte(d)})
			}
		}
	}
}

func TestSyncOfNoPower(t *testing.T) {
	f := disk.NewFuse(0)
	r := of(t, 3, 2, f)
	l := takes(t, "all", r, 0, 1, 2)
	for _, x := range l {
		puts(t, r, x, []byte{1})
	}
	f.Set(1)
	syncs(t, "power for one more", r, api.OK)
	isPending(t, "power for one more", r, 0, 0, 0)
	puts(t, r, l[1], []byte{2})
	syncs(t, "no power", r, api.ErrDead)
	isPending(t, "no power", r, 0, 1, 0)
	r.Bay(0).Disk().Fail()
	syncs(t, "no power, the first is not live", r, api.ErrDead)
	r.Bay(1).Disk().Fail()
	syncs(t, "no power, nothing is pending on the live one", r, api.ErrDead)
	r.Bay(2).Disk().Fail()
	syncs(t, "no power, none is live", r, api.OK)
	isPending(t, "none is live", r, 0, 1, 0)
	f.Set(0)
	syncs(t, "power, none is live", r, api.OK)
	r.Bay(1).Disk().Crash(0, 0)
	r.Bay(1).Disk().Replace()
	syncs(t, "power", r, api.OK)
}

// W2: what was synced stays through a crash; what was not is gone with it.
func TestCrash(t *testing.T) {
	r := of(t, 3, 2, nil)
	first := takes(t, "first", r, 0, 1, 2)
	for _, l := range first {
		puts(t, r, l, []byte{1})
	}
	syncs(t, "first", r, api.OK)
	second := takes(t, "second", r, 2, 1, 0)
	for _, l := range second {
		puts(t, r, l, []byte{2})
	}
	for d := range 3 {
		r.Bay(d).Disk().Crash(0, 0)
	}
	for i := range 3 {
		gets(t, "synced", r, first[i], []byte{1})
		getsNot(t, "not synced", r, second[i], api.ErrNone)
	}
	has(t, "what is used is in no crash", r, 7, [][]int{{0, 1}, {0, 1}, {0, 1}})
}

// Promise 10.2 (W4): chunks of one Take are on unlike disks, and no two that are taken share a slot or an id.

func TestWhatIsPlacedIsTaken(t *testing.T) {
	for _, x := range []struct{ disks, slots, n, class int }{{6, 4, 3, -1}, {18, 8, 6, 1}, {20, 30, 16, -1}, {24, 64, 8, 2}, {7, 5, 2, 0}, {1, 3, 1, 0}, {4, 3, 4, -1}} {
		r := of(t, x.disks, x.slots, nil)
		taken := map[api.Loc]bool{}
		for round := 0; ; round++ {
			disks, ok := r.Place(x.n, x.class, nil)
			if !ok {
				break
			}
			on := map[int]bool{}
			for i, l := range takes(t, "placed", r, disks...) {
				where := api.Loc{Disk: l.Disk, Slot: l.Slot}
				if on[l.Disk] || taken[where] || l.ID != 1+round*x.n+i {
					t.Fatalf("%v: took %v once more", x, l)
				}
				if x.class >= 0 && l.Disk%3 != x.class {
					t.Fatalf("%v: took %v, of another class", x, l)
				}
				on[l.Disk], taken[where] = true, true
			}
		}
		// Place spreads what is taken: what is left in the end is less than one Take needs.
		open := 0
		for d := range x.disks {
			if (x.class < 0 || d%3 == x.class) && r.Bay(d).Free() > 0 {
				open++
			}
		}
		if open >= x.n || len(taken) == 0 {
			t.Errorf("%v: %d disks are still open, %d taken", x, open, len(taken))
		}
	}
}

// twin is what a Rack is by the chapter's words, kept in another way: what each slot has, under which id, and which are used.
type twin struct {
	slots int
	next  int
	live  []bool
	used  []map[int]bool
	has   []map[int]api.Loc // by slot, what was put there last
	data  map[api.Loc]string
}

func newTwin(disks, slots int) *twin {
	w := &twin{slots: slots, next: 1, data: map[api.Loc]string{}}
	for range disks {
		w.live = append(w.live, true)
		w.used = append(w.used, map[int]bool{})
		w.has = append(w.has, map[int]api.Loc{})
	}
	return w
}

func (w *twin) free() []int {
	var free []int
	for _, used := range w.used {
		free = append(free, w.slots-len(used))
	}
	return free
}

func (w *twin) take(disks []int) ([]api.Loc, bool) {
	seen := map[int]bool{}
	for _, d := range disks {
		if d < 0 || d >= len(w.live) || seen[d] || len(w.used[d]) == w.slots {
			return nil, false
		}
		seen[d] = true
	}
	var locs []api.Loc
	for _, d := range disks {
		slot := 0
		for w.used[d][slot] {
			slot++
		}
		w.used[d][slot] = true
		locs = append(locs, api.Loc{Disk: d, Slot: slot, ID: w.next})
		w.next++
	}
	return locs, true
}

func (w *twin) lacks(l api.Loc) bool {
	return l.Disk < 0 || l.Disk >= len(w.live) || l.Slot < 0 || l.Slot >= w.slots
}

func (w *twin) put(l api.Loc, data []byte, power bool) api.Errno {
	switch {
	case w.lacks(l) || !w.used[l.Disk][l.Slot] || l.ID < 0 || len(data) > 64:
		return api.ErrArg
	case !w.live[l.Disk]:
		return api.ErrGone
	case !power:
		return api.ErrDead
	}
	w.has[l.Disk][l.Slot] = l
	w.data[l] = string(data)
	return api.OK
}

func (w *twin) get(l api.Loc) ([]byte, api.Errno) {
	switch {
	case w.lacks(l):
		return nil, api.ErrArg
	case !w.live[l.Disk]:
		return nil, api.ErrGone
	}
	if was, ok := w.has[l.Disk][l.Slot]; !ok || was != l {
		return nil, api.ErrNone
	}
	return []byte(w.data[l]), api.OK
}

// W1, W4: whatever is asked in whatever order, a Rack answers as its twin does.
func TestScripts(t *testing.T) {
	found := 0
	for script := range 150 {
		mix := mixer(900 + script)
		disks, slots := 1+mix.below(9), 1+mix.below(6)
		f := disk.NewFuse(0)
		r, w := of(t, disks, slots, f), newTwin(disks, slots)
		var ever []api.Loc
		for range 300 {
			ever = append(ever, step(t, &mix, r, w, f)...)
			found += same(t, &mix, r, w, ever)
		}
	}
	if found < 10000 {
		t.Errorf("%d chunks were found in all: the trial tells too little", found)
	}
}

// anywhere tells a Loc that is somewhere in a Rack, or just outside.
func anywhere(mix *mixer, w *twin) api.Loc {
	return api.Loc{Disk: mix.below(len(w.live)+2) - 1, Slot: mix.below(w.slots+2) - 1, ID: mix.below(w.next+3) - 1}
}

// step does one thing to both, chosen by mix; it tells the Locs that were taken or held.
func step(t *testing.T, mix *mixer, r *rack.Rack, w *twin, f *disk.Fuse) []api.Loc {
	t.Helper()
	l := anywhere(mix, w)
	switch mix.below(14) {
	case 0, 1, 2:
		return takeBoth(t, mix, r, w)
	case 3:
		want := !w.lacks(l) && !w.used[l.Disk][l.Slot]
		if r.Hold(l) != want {
			t.Fatalf("Hold(%v) is not %v", l, want)
		}
		if want {
			w.used[l.Disk][l.Slot] = true
			for w.next <= l.ID {
				w.next++
			}
			return []api.Loc{l}
		}
	case 4, 5:
		want := !w.lacks(l) && w.used[l.Disk][l.Slot]
		if r.Give(l) != want {
			t.Fatalf("Give(%v) is not %v", l, want)
		}
		if want {
			delete(w.used[l.Disk], l.Slot)
		}
	case 6:
		befall(mix, r, w, f)
	case 7:
		if mix.below(20) == 0 {
			w.next = 1 + mix.below(w.next+2)
			for d := range w.used {
				clear(w.used[d])
			}
			r.Reset(w.next)
		}
	case 8:
		want := api.OK
		if f.Dead() && slices.Contains(w.live, true) {
			want = api.ErrDead
		}
		syncs(t, "script", r, want)
	default:
		data := mix.bytes(mix.below(66))
		putsNot(t, "script", r, l, data, w.put(l, data, !f.Dead()))
		return []api.Loc{l}
	}
	return nil
}

// takeBoth takes of both what Place tells, or of any disks.
func takeBoth(t *testing.T, mix *mixer, r *rack.Rack, w *twin) []api.Loc {
	t.Helper()
	row := mix.some(mix.below(4), len(w.live)+1)
	if mix.below(3) > 0 {
		row, _ = r.Place(1+mix.below(4), mix.below(4)-1, mix.some(mix.below(3), len(w.live)))
	}
	want, ok := w.take(row)
	if got, is := r.Take(row); is != ok || !slices.Equal(got, want) {
		t.Fatalf("Take(%v) = %v, %v, want %v, %v", row, got, is, want, ok)
	}
	return want
}

// befall lets a disk fail, or be replaced, or turns the power off or on.
func befall(mix *mixer, r *rack.Rack, w *twin, f *disk.Fuse) {
	d := mix.below(len(w.live))
	switch mix.below(3) {
	case 0:
		r.Bay(d).Disk().Fail()
		w.live[d] = false
	case 1:
		r.Bay(d).Disk().Replace()
		w.live[d] = true
		clear(w.has[d])
	default:
		if f.Dead() {
			f.Set(0)
		} else {
			f.Set(1)
			f.Spend()
		}
	}
}

// same tells whether both answer the same, and how many chunks were found.
func same(t *testing.T, mix *mixer, r *rack.Rack, w *twin, ever []api.Loc) int {
	t.Helper()
	var used [][]int
	live := 0
	for d := range w.used {
		var slots []int
		for slot := range w.used[d] {
			slots = append(slots, slot)
		}
		slices.Sort(slots)
		used = append(used, slots)
		if w.live[d] {
			live++
		}
	}
	has(t, "script", r, w.next, used)
	if r.Live() != live || r.Size() != len(w.live) {
		t.Fatalf("Live = %d, want %d; Size = %d, want %d", r.Live(), live, r.Size(), len(w.live))
	}
	n, class, avoid := mix.below(len(w.live)+3)-1, mix.below(5)-1, mix.some(mix.below(4), len(w.live)+1)
	if want, ok := order(w.free(), w.live, n, class, avoid); ok {
		places(t, "script", r, n, class, avoid, want)
	} else {
		placesNot(t, "script", r, n, class, avoid)
	}
	found := 0
	for i := max(0, len(ever)-40); i < len(ever); i++ {
		want, e := w.get(ever[i])
		if e != api.OK {
			getsNot(t, "script", r, ever[i], e)
			continue
		}
		gets(t, "script", r, ever[i], want)
		found++
	}
	return found
}

// Promise 10.3: every call ends and none panics.

func TestNoCallPanics(t *testing.T) {
	defer func() {
		if p := recover(); p != nil {
			t.Errorf("a call panicked: %v", p)
		}
	}()
	numbers := append(strange(), 0, 1, 2, 3, 23, 24, 63)
	rows := [][]int{nil, {}, {0}, {2, 0, 1}, {0, 0}, numbers, make([]int, 1000)}
	for _, size := range [][2]int{{1, 1}, {3, 2}, {24, 64}} {
		for _, k := range []int{0, 1, 5} {
			r := of(t, size[0], size[1], disk.NewFuse(k))
			for round, x := range numbers {
				for _, y := range numbers {
					for _, row := range rows {
						r.Place(x, y, row)
						r.Take(row)
					}
					for _, id := range []int{math.MinInt, -1, 0, 1, 1 << 32, math.MaxInt} {
						l := api.Loc{Disk: x, Slot: y, ID: id}
						r.Hold(l)
						r.Put(l, make([]byte, round*4))
						r.Get(l)
						r.Give(l)
					}
				}
				r.Sync()
				r.Live()
				r.Next()
				r.Bay(x)
				r.Size()
				if round%3 == 0 {
					r.Reset(x)
				}
				r.Bay(round % size[0]).Disk().Fail()
				if round%5 == 0 {
					r.Bay(0).Disk().Replace()
				}
			}
		}
	}
}
