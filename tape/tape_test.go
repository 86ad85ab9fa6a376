package tape_test

import (
	"bytes"
	"math"
	"testing"

	"hypocaust/api"
	"hypocaust/disk"
	"hypocaust/tape"
)

// most is how many bytes a Tape may have.
const most = 65536

// mixer tells numbers that look mixed, the same ones each time.
type mixer uint64

func (m *mixer) below(n int) int {
	*m = *m*6364136223846793005 + 1442695040888963407
	return int(uint64(*m) >> 33 % uint64(n))
}

func (m *mixer) bytes(n int) []byte {
	b := make([]byte, n)
	for i := range b {
		b[i] = byte(m.below(256))
	}
	return b
}

// from tells n bytes that rise from first on, round again behind 255.
func from(first, n int) []byte {
	b := make([]byte, n)
	for i := range b {
		b[i] = byte(first + i)
	}
	return b
}

// strange are numbers of bytes that no Tape has.
func strange() []int {
	return []int{math.MinInt, math.MinInt + 1, -1 << 32, -most, -256, -2, -1, most + 1, 1 << 17, 1 << 32, 1<<32 + 1, 1 << 62, math.MaxInt - 1, math.MaxInt}
}

// spent makes a Fuse that is dead.
func spent() *disk.Fuse {
	f := disk.NewFuse(1)
	f.Spend()
	return f
}

// is tells whether a call answered what it should.
func is(t *testing.T, name string, got, want api.Errno) {
	t.Helper()
	if got != want {
		t.Fatalf("%s: error %d, want %d", name, got, want)
	}
}

// adds Appends what may be Appended.
func adds(t *testing.T, x *tape.Tape, b []byte) {
	t.Helper()
	is(t, "Append", x.Append(b), api.OK)
}

// syncs Syncs what may be Synced.
func syncs(t *testing.T, x *tape.Tape) {
	t.Helper()
	is(t, "Sync", x.Sync(), api.OK)
}

// cuts Cuts where it may be Cut.
func cuts(t *testing.T, x *tape.Tape, n int) {
	t.Helper()
	is(t, "Cut", x.Cut(n), api.OK)
}

// of makes a Tape of synced bytes with loose ones behind them: 0, 1 and so on.
func of(t *testing.T, f *disk.Fuse, synced, loose int) *tape.Tape {
	t.Helper()
	x := tape.New(f)
	adds(t, x, from(0, synced))
	syncs(t, x)
	adds(t, x, from(synced, loose))
	return x
}

// holds tells whether the Tape is live and has just these bytes, the last so many of them loose.
func holds(t *testing.T, name string, x *tape.Tape, loose int, want []byte) {
	t.Helper()
	got, e := x.Bytes()
	if e != api.OK || !bytes.Equal(got, want) {
		t.Fatalf("%s: Bytes = %v, %v, want %v", name, got, e, want)
	}
	if !x.Live() || x.Loose() != loose {
		t.Fatalf("%s: live %v, %d loose, want true, %d", name, x.Live(), x.Loose(), loose)
	}
}

// isGone tells whether the Tape is not live, and answers so.
func isGone(t *testing.T, name string, x *tape.Tape) {
	t.Helper()
	if x.Live() {
		t.Fatalf("%s: Live = true", name)
	}
	if got, e := x.Bytes(); e != api.ErrGone || len(got) != 0 {
		t.Fatalf("%s: Bytes = %v, %v, want nothing, ErrGone", name, got, e)
	}
}

// has tells how many writes are left of a Fuse, and spends them.
func has(t *testing.T, name string, f *disk.Fuse, left int) {
	t.Helper()
	for i := range left {
		if !f.Spend() {
			t.Fatalf("%s: %d writes were left, want %d", name, i, left)
		}
	}
	if !f.Dead() {
		t.Fatalf("%s: more than %d writes were left", name, left)
	}
}

// Promise 11.1: New.

func TestNew(t *testing.T) {
	for _, f := range []*disk.Fuse{nil, disk.NewFuse(0), disk.NewFuse(1)} {
		x := tape.New(f)
		holds(t, "new", x, 0, nil)
		syncs(t, x)
		x.Crash(9)
		holds(t, "new, synced and crashed", x, 0, nil)
		is(t, "Cut(1)", x.Cut(1), api.ErrArg)
		cuts(t, x, 0)
		holds(t, "new and cut", x, 0, nil)
	}
}

// A Tape of a dead Fuse is live, and is not written.
func TestNewOfADeadFuse(t *testing.T) {
	x := tape.New(spent())
	is(t, "Append", x.Append([]byte{1}), api.ErrDead)
	is(t, "Append of none", x.Append(nil), api.ErrDead)
	is(t, "Sync", x.Sync(), api.ErrDead)
	is(t, "Cut", x.Cut(0), api.ErrDead)
	holds(t, "without power", x, 0, nil)
}

// 7.2's words of a nil Fuse: it never is dead.
func TestNilFuse(t *testing.T) {
	x := tape.New(nil)
	for i := range 3000 {
		adds(t, x, []byte{byte(i)})
		syncs(t, x)
	}
	cuts(t, x, 2000)
	holds(t, "behind 3000", x, 0, from(0, 2000))
	x.Replace()
	adds(t, x, []byte{1})
	syncs(t, x)
	holds(t, "behind Replace", x, 0, []byte{1})
}

func TestTapesAreApart(t *testing.T) {
	f := disk.NewFuse(0)
	x, y := tape.New(f), tape.New(f)
	adds(t, x, []byte{1, 2})
	holds(t, "the other one", y, 0, nil)
	adds(t, y, []byte{7})
	syncs(t, y)
	holds(t, "the first one", x, 2, []byte{1, 2})
	y.Crash(0)
	cuts(t, y, 0)
	y.Fail()
	holds(t, "the first one", x, 2, []byte{1, 2})
	isGone(t, "the other one", y)
	x.Crash(1)
	y.Replace()
	holds(t, "the first one", x, 0, []byte{1})
	holds(t, "the other one", y, 0, nil)
}

// Promise 11.1: Append and Bytes.

func TestAppendIsBehindTheOthers(t *testing.T) {
	var mix mixer
	x := tape.New(nil)
	var all []byte
	safe := 0
	for i := range 300 {
		b := mix.bytes(mix.below(120))
		all = append(all, b...)
		adds(t, x, b)
		holds(t, "behind Append", x, len(all)-safe, all)
		if i%40 == 39 {
			syncs(t, x)
			safe = len(all)
			holds(t, "behind Sync", x, 0, all)
		}
	}
}

// Each byte there is may be on a Tape, and a row of any length.
func TestAppendOfEachLength(t *testing.T) {
	for _, n := range []int{0, 1, 2, 3, 7, 8, 95, 96, 97, 250, 251, 255, 256, 257, 1023, 4096, most - 1, most} {
		for _, first := range []int{0, 1, 255} {
			x := tape.New(nil)
			adds(t, x, from(first, n))
			holds(t, "behind Append", x, n, from(first, n))
			syncs(t, x)
			holds(t, "behind Sync", x, 0, from(first, n))
		}
	}
}

// No bytes are laid behind the others as others are: with power, and spending it.
func TestAppendOfNone(t *testing.T) {
	f := disk.NewFuse(0)
	x := of(t, f, 3, 2)
	f.Set(3)
	adds(t, x, nil)
	adds(t, x, []byte{})
	holds(t, "behind none", x, 2, from(0, 5))
	has(t, "behind two of none", f, 1)
	is(t, "Append of none", x.Append(nil), api.ErrDead)
	is(t, "Append of none", x.Append([]byte{}), api.ErrDead)
	holds(t, "behind none", x, 2, from(0, 5))
}

func TestFull(t *testing.T) {
	for _, there := range []int{0, 1, 2, 255, most / 2, most - 2, most - 1, most} {
		for _, synced := range []int{0, there / 3, there} {
			f := disk.NewFuse(0)
			x := of(t, f, synced, there-synced)
			f.Set(5)
			for _, over := range []int{1, 2, 255, most, 3 * most} {
				is(t, "Append of too many", x.Append(make([]byte, most-there+over)), api.ErrFull)
			}
			holds(t, "behind ErrFull", x, there-synced, from(0, there))
			adds(t, x, from(there, most-there))
			holds(t, "full", x, most-synced, from(0, most))
			is(t, "Append to a full one", x.Append([]byte{1}), api.ErrFull)
			adds(t, x, nil)
			holds(t, "full", x, most-synced, from(0, most))
			has(t, "behind ErrFulls", f, 3)
		}
	}
}

// Room that is free again may be written again.
func TestFullNoMore(t *testing.T) {
	for name, befalls := range map[string]func(x *tape.Tape){
		"Cut":     func(x *tape.Tape) { x.Cut(9) },
		"Crash":   func(x *tape.Tape) { x.Crash(4) },
		"Replace": func(x *tape.Tape) { x.Replace() },
	} {
		x := of(t, nil, 5, most-5)
		is(t, "Append to a full one", x.Append([]byte{1}), api.ErrFull)
		befalls(x)
		there := 9
		if name == "Replace" {
			there = 0
		}
		holds(t, "behind "+name, x, 0, from(0, there))
		is(t, "Append of too many", x.Append(make([]byte, most-there+1)), api.ErrFull)
		adds(t, x, from(100, most-there))
		holds(t, "full again behind "+name, x, most-there, append(from(0, there), from(100, most-there)...))
		is(t, "Append to a full one", x.Append([]byte{1}), api.ErrFull)
	}
}

// What was handed in is neither changed nor kept, nor is the room behind it.
func TestAppendKeepsNothing(t *testing.T) {
	x := tape.New(nil)
	room := []byte{1, 2, 3, 4, 5, 6, 7, 8}
	for i := range 4 {
		adds(t, x, room[i:i+1])
	}
	if !bytes.Equal(room, []byte{1, 2, 3, 4, 5, 6, 7, 8}) {
		t.Errorf("Append changed what it was handed: %v", room)
	}
	clear(room)
	holds(t, "behind a change of what was handed in", x, 4, []byte{1, 2, 3, 4})
	room = []byte{9, 9, 9, 9}
	y := tape.New(nil)
	adds(t, y, room[:2])
	adds(t, y, []byte{5})
	cuts(t, y, 1)
	adds(t, y, []byte{6})
	if !bytes.Equal(room, []byte{9, 9, 9, 9}) {
		t.Errorf("later calls changed what was handed in: %v", room)
	}
	holds(t, "behind them", y, 1, []byte{9, 6})
}

// What was answered is not the Tape's, nor is the room behind it, and two answers are apart.
func TestBytesAreNewMemory(t *testing.T) {
	for _, synced := range []int{0, 2, 5} {
		x := of(t, nil, synced, 5-synced)
		got, _ := x.Bytes()
		other, _ := x.Bytes()
		clear(got[:cap(got)])
		_ = append(got[:5], 1, 2, 3)
		holds(t, "behind a change of the answer", x, 5-synced, from(0, 5))
		if !bytes.Equal(other, from(0, 5)) {
			t.Errorf("two answers share memory: %v", other)
		}
		adds(t, x, []byte{50, 51, 52})
		holds(t, "behind Append", x, 8-synced, append(from(0, 5), 50, 51, 52))
		_ = append(other[:5], 9, 9, 9)
		holds(t, "behind a change of an answer's room", x, 8-synced, append(from(0, 5), 50, 51, 52))
		cuts(t, x, 1)
		adds(t, x, []byte{99, 99})
		x.Crash(1)
		x.Fail()
		x.Replace()
		adds(t, x, []byte{77, 77, 77, 77, 77})
		if !bytes.Equal(other, from(0, 5)) {
			t.Errorf("later calls changed an answer: %v", other)
		}
	}
}

// An answer of one Tape may be Appended to it, or to another.
func TestAppendOfBytes(t *testing.T) {
	x, y := of(t, nil, 2, 1), tape.New(nil)
	b, _ := x.Bytes()
	adds(t, x, b)
	adds(t, y, b)
	adds(t, x, b[1:])
	holds(t, "itself", x, 6, []byte{0, 1, 2, 0, 1, 2, 1, 2})
	holds(t, "the other", y, 3, []byte{0, 1, 2})
}

// Promise 11.1: Sync.

// Sync asks for power, and spends none.
func TestSync(t *testing.T) {
	f := disk.NewFuse(3)
	x := of(t, f, 3, 2)
	for range 9 {
		syncs(t, x)
		holds(t, "behind Sync", x, 0, from(0, 5))
	}
	x.Crash(0)
	holds(t, "behind Crash", x, 0, from(0, 5))
	adds(t, x, []byte{5})
	for range 2 {
		is(t, "Sync", x.Sync(), api.ErrDead)
		holds(t, "behind a Sync without power", x, 1, from(0, 6))
	}
	x.Crash(0)
	holds(t, "behind Crash", x, 0, from(0, 5))
	is(t, "Sync of nothing", x.Sync(), api.ErrDead)
	f.Set(1)
	syncs(t, x)
	has(t, "behind Sync", f, 1)
}

// Promise 11.1: Cut.

func TestCutOfEachNumber(t *testing.T) {
	for synced := range 7 {
		for loose := range 7 {
			for n := range synced + loose + 1 {
				f := disk.NewFuse(0)
				x := of(t, f, synced, loose)
				f.Set(2)
				cuts(t, x, n)
				holds(t, "behind Cut", x, 0, from(0, n))
				has(t, "behind Cut", f, 1)
				x.Crash(-1)
				holds(t, "behind Crash", x, 0, from(0, n))
				f.Set(0)
				adds(t, x, []byte{77, 78})
				holds(t, "behind Append", x, 2, append(from(0, n), 77, 78))
				x.Crash(1)
				holds(t, "behind another Crash", x, 0, append(from(0, n), 77))
			}
		}
	}
}

func TestCutRefuses(t *testing.T) {
	for _, there := range [][2]int{{0, 0}, {0, 1}, {1, 0}, {3, 2}, {255, 1}, {0, most}, {most, 0}} {
		f := disk.NewFuse(0)
		x := of(t, f, there[0], there[1])
		all := there[0] + there[1]
		f.Set(1)
		for _, n := range append(strange(), all+1, all+2, 2*all+1) {
			is(t, "Cut outside", x.Cut(n), api.ErrArg)
		}
		holds(t, "behind what was refused", x, there[1], from(0, all))
		has(t, "behind what was refused", f, 1)
		is(t, "Cut without power", x.Cut(all), api.ErrDead)
		is(t, "Cut without power", x.Cut(0), api.ErrDead)
		holds(t, "behind Cuts without power", x, there[1], from(0, all))
	}
}

// What was cut is gone: no later call brings it back.
func TestCutIsCut(t *testing.T) {
	x := of(t, nil, 4, 4)
	cuts(t, x, 6)
	cuts(t, x, 2)
	for n := 3; n < 9; n++ {
		is(t, "Cut to more", x.Cut(n), api.ErrArg)
	}
	x.Crash(9)
	syncs(t, x)
	holds(t, "behind Cuts", x, 0, from(0, 2))
	cuts(t, x, 2)
	cuts(t, x, 0)
	x.Crash(9)
	holds(t, "behind a Cut to none", x, 0, nil)
}

// Promise 11.1: which error.

// The order of the calls' own words: ErrGone, then ErrFull or ErrArg, then ErrDead.
func TestOrderOfErrors(t *testing.T) {
	for _, gone := range []bool{false, true} {
		for _, dead := range []bool{false, true} {
			f := disk.NewFuse(0)
			x := of(t, f, 3, 2)
			f.Set(1)
			if dead {
				f.Spend()
			}
			write, full, arg := api.OK, api.ErrFull, api.ErrArg
			if dead {
				write = api.ErrDead
			}
			if gone {
				x.Fail()
				write, full, arg = api.ErrGone, api.ErrGone, api.ErrGone
			}
			is(t, "Append of too many", x.Append(make([]byte, most-4)), full)
			is(t, "Append of far too many", x.Append(make([]byte, 2*most)), full)
			is(t, "Cut below 0", x.Cut(-1), arg)
			is(t, "Cut to more", x.Cut(6), arg)
			if f.Dead() != dead {
				t.Fatalf("gone %v, dead %v: what was refused spent power", gone, dead)
			}
			is(t, "Append", x.Append(make([]byte, most-5)), write)
			f.Set(1)
			if dead {
				f.Spend()
			}
			is(t, "Cut", x.Cut(5), write)
			if f.Dead() != (dead || !gone) {
				t.Fatalf("gone %v, dead %v: behind Cut, Dead = %v", gone, dead, f.Dead())
			}
			f.Set(1)
			if dead {
				f.Spend()
			}
			is(t, "Sync", x.Sync(), write)
			read := api.OK
			if gone {
				read = api.ErrGone
			}
			_, e := x.Bytes()
			is(t, "Bytes", e, read)
			if f.Dead() != dead {
				t.Fatalf("gone %v, dead %v: Sync or Bytes spent power", gone, dead)
			}
		}
	}
}

// Promise 11.1: power.

func TestPowerEnds(t *testing.T) {
	for k := 1; k < 9; k++ {
		f := disk.NewFuse(k)
		x := tape.New(f)
		for i := range k {
			adds(t, x, []byte{byte(i), 0})
		}
		want, _ := x.Bytes()
		if len(want) != 2*k {
			t.Fatalf("behind %d Appends %d bytes", k, len(want))
		}
		for range 3 {
			is(t, "Append", x.Append([]byte{9}), api.ErrDead)
			is(t, "Cut", x.Cut(1), api.ErrDead)
			is(t, "Sync", x.Sync(), api.ErrDead)
			holds(t, "without power", x, 2*k, want)
		}
		f.Set(0)
		syncs(t, x)
		adds(t, x, []byte{9})
		holds(t, "with power again", x, 1, append(want, 9))
	}
}

// An Append is one write, and a Cut is, however many bytes they are of.
func TestEachWriteSpendsOne(t *testing.T) {
	for _, n := range []int{0, 1, 2, 96, 97, 250, 4096, most} {
		f := disk.NewFuse(5)
		x := tape.New(f)
		adds(t, x, make([]byte, n))
		syncs(t, x)
		cuts(t, x, n)
		cuts(t, x, n/2)
		cuts(t, x, 0)
		has(t, "behind four writes", f, 1)
	}
}

// Power is that of all who share the Fuse.
func TestPowerIsShared(t *testing.T) {
	f := disk.NewFuse(4)
	x, y, d := tape.New(f), tape.New(f), disk.New(1, f)
	adds(t, x, []byte{1})
	adds(t, y, []byte{2})
	is(t, "a Disk's Write", d.Write(0, make([]byte, 96)), api.OK)
	cuts(t, y, 1)
	for _, z := range []*tape.Tape{x, y} {
		is(t, "Append", z.Append([]byte{3}), api.ErrDead)
		is(t, "Cut", z.Cut(0), api.ErrDead)
		is(t, "Sync", z.Sync(), api.ErrDead)
	}
	is(t, "a Disk's Sync", d.Sync(), api.ErrDead)
	holds(t, "the one", x, 1, []byte{1})
	holds(t, "the other", y, 0, []byte{2})
}

// All but Append, Sync and Cut go on without power.
func TestWithoutPower(t *testing.T) {
	f := disk.NewFuse(2)
	x := of(t, f, 3, 4)
	holds(t, "without power", x, 4, from(0, 7))
	x.Crash(2)
	holds(t, "behind Crash", x, 0, from(0, 5))
	x.Fail()
	isGone(t, "behind Fail", x)
	x.Replace()
	holds(t, "behind Replace", x, 0, nil)
	if !f.Dead() {
		t.Error("the Fuse is not dead any more")
	}
	is(t, "Append", x.Append([]byte{1}), api.ErrDead)
}

// Whatever befalls a Tape, its Fuse stays the one that New was handed, and only writes spend of it.
func TestFuseStays(t *testing.T) {
	for name, befalls := range map[string]func(x *tape.Tape){
		"nothing": func(x *tape.Tape) {},
		"Sync":    func(x *tape.Tape) { x.Sync() },
		"Crash":   func(x *tape.Tape) { x.Crash(1) },
		"Replace": func(x *tape.Tape) { x.Replace() },
		"Fail and Replace": func(x *tape.Tape) {
			x.Fail()
			x.Append([]byte{1})
			x.Cut(0)
			x.Replace()
		},
		"questions": func(x *tape.Tape) {
			x.Bytes()
			x.Live()
			x.Loose()
		},
	} {
		f := disk.NewFuse(2)
		x := tape.New(f)
		adds(t, x, []byte{1})
		befalls(x)
		if f.Dead() {
			t.Errorf("%s spent power", name)
		}
		adds(t, x, []byte{2})
		if !f.Dead() {
			t.Errorf("behind %s an Append spent no power", name)
		}
		befalls(x)
		is(t, "Append behind "+name, x.Append([]byte{3}), api.ErrDead)
		is(t, "Sync behind "+name, x.Sync(), api.ErrDead)
		is(t, "Cut behind "+name, x.Cut(0), api.ErrDead)
		f.Set(0)
		adds(t, x, []byte{4})
		syncs(t, x)
	}
}

// Promise 11.1: Fail and Replace.

func TestFail(t *testing.T) {
	f := disk.NewFuse(0)
	x := of(t, f, 3, 2)
	f.Set(1)
	for range 2 {
		x.Fail()
		isGone(t, "behind Fail", x)
		for n := -1; n < 7; n++ {
			is(t, "Cut", x.Cut(n), api.ErrGone)
		}
		for _, n := range []int{0, 1, most - 5, most, most + 1} {
			is(t, "Append", x.Append(make([]byte, n)), api.ErrGone)
		}
		is(t, "Sync", x.Sync(), api.ErrGone)
		x.Crash(1)
		isGone(t, "behind Crash", x)
	}
	has(t, "behind a Tape that is not live", f, 1)
	x.Replace()
	holds(t, "behind Replace", x, 0, nil)
}

// 11.1 tells of Fail only that the Tape is not live: what is loose is so till a Crash or a Replace.
func TestLooseOfATapeThatFailed(t *testing.T) {
	x := of(t, nil, 3, 4)
	x.Fail()
	if x.Loose() != 4 {
		t.Errorf("Loose = %d, want 4", x.Loose())
	}
	x.Crash(1)
	if x.Loose() != 0 {
		t.Errorf("Loose behind Crash = %d, want 0", x.Loose())
	}
	isGone(t, "behind Crash", x)
}

func TestReplace(t *testing.T) {
	for _, fails := range []bool{false, true} {
		for synced := range 4 {
			for loose := range 4 {
				x := of(t, nil, synced, loose)
				if fails {
					x.Fail()
				}
				x.Replace()
				holds(t, "behind Replace", x, 0, nil)
				x.Crash(9)
				syncs(t, x)
				holds(t, "nothing comes back", x, 0, nil)
				is(t, "Cut", x.Cut(1), api.ErrArg)
				adds(t, x, []byte{50, 51, 52})
				holds(t, "behind Append", x, 3, []byte{50, 51, 52})
				x.Crash(1)
				holds(t, "behind Crash", x, 0, []byte{50})
				x.Replace()
				holds(t, "behind Replace once more", x, 0, nil)
			}
		}
	}
}

// Promise 11.1: Crash and Loose.

func TestExample(t *testing.T) {
	x := tape.New(nil)
	adds(t, x, []byte{1, 2, 3})
	x.Crash(2)
	holds(t, "Append(1 2 3), Crash(2)", x, 0, []byte{1, 2})
}

// Of what is loose the first stay, as many as there are; below 0 is 0.
func TestCrashOfEachNumber(t *testing.T) {
	for synced := range 6 {
		for loose := range 6 {
			for _, keep := range append(strange(), 0, 1, 2, 3, 4, 5, 6, 7, 11) {
				x := of(t, nil, synced, loose)
				x.Crash(keep)
				stays := synced + min(max(keep, 0), loose)
				holds(t, "behind Crash", x, 0, from(0, stays))
				for _, again := range []int{keep, 0, -1, 1, 9} {
					x.Crash(again)
					holds(t, "behind another Crash", x, 0, from(0, stays))
				}
				adds(t, x, []byte{88, 89})
				holds(t, "behind Append", x, 2, append(from(0, stays), 88, 89))
				x.Crash(1)
				holds(t, "behind a later Crash", x, 0, append(from(0, stays), 88))
			}
		}
	}
}

// What is loose is counted over all Appends, and what stays may end within one.
func TestCrashOfManyAppends(t *testing.T) {
	for keep := range 22 {
		x := of(t, nil, 4, 0)
		all := 4
		for _, n := range []int{3, 0, 1, 5, 2, 0, 9} {
			adds(t, x, from(all, n))
			all += n
			holds(t, "behind Append", x, all-4, from(0, all))
		}
		x.Crash(keep)
		holds(t, "behind Crash", x, 0, from(0, 4+min(keep, 20)))
	}
}

func TestCrashOfAFullTape(t *testing.T) {
	for _, keep := range []int{0, 1, 255, 256, most - 8, most - 7, most, most + 1} {
		x := of(t, nil, 7, most-7)
		x.Crash(keep)
		holds(t, "behind Crash", x, 0, from(0, min(7+keep, most)))
	}
}

func TestLoose(t *testing.T) {
	x := tape.New(nil)
	loose := 0
	for i := range 200 {
		if x.Loose() != loose {
			t.Fatalf("Loose = %d, want %d", x.Loose(), loose)
		}
		adds(t, x, from(0, i%7))
		loose += i % 7
		if i%31 == 30 {
			syncs(t, x)
			loose = 0
		}
	}
	syncs(t, x)
	for _, befalls := range []func(){func() { x.Crash(1) }, func() { x.Cut(2) }, func() { x.Replace() }} {
		adds(t, x, []byte{1, 2, 3})
		if x.Loose() != 3 {
			t.Fatalf("Loose = %d, want 3", x.Loose())
		}
		befalls()
		if x.Loose() != 0 {
			t.Fatalf("Loose = %d, want 0", x.Loose())
		}
	}
}

// Promise 11.2 (W2): what was synced stays; a crash leaves a beginning.

// twin keeps what is safe, and apart from it each Append that is loose.
type twin struct {
	safe  []byte
	loose [][]byte
}

func (w *twin) all() []byte {
	b := bytes.Clone(w.safe)
	for _, l := range w.loose {
		b = append(b, l...)
	}
	return b
}

func (w *twin) sync() {
	w.safe, w.loose = w.all(), nil
}

func (w *twin) cut(n int) {
	w.sync()
	w.safe = w.safe[:n]
}

// crash lays what is loose behind what is safe byte by byte, as long as keep lasts.
func (w *twin) crash(keep int) {
	for _, l := range w.loose {
		for _, c := range l {
			if keep > 0 {
				w.safe = append(w.safe, c)
				keep--
			}
		}
	}
	w.loose = nil
}

// held tells whether the Tape has what its twin has.
func held(t *testing.T, name string, x *tape.Tape, w *twin) {
	t.Helper()
	all := w.all()
	holds(t, name, x, len(all)-len(w.safe), all)
}

// befall does one thing to both, chosen by mix; a crash is left to the caller. It tells whether there was power.
func befall(t *testing.T, mix *mixer, x *tape.Tape, w *twin) bool {
	t.Helper()
	e := api.OK
	switch mix.below(8) {
	case 0, 1:
		if e = x.Sync(); e == api.OK {
			w.sync()
		}
	case 2:
		n := mix.below(len(w.all()) + 1)
		if e = x.Cut(n); e == api.OK {
			w.cut(n)
		}
	default:
		b := mix.bytes(mix.below(9))
		if e = x.Append(b); e == api.OK {
			w.loose = append(w.loose, b)
		}
	}
	if e != api.OK && e != api.ErrDead {
		t.Fatalf("error %d, want OK or ErrDead", e)
	}
	return e == api.OK
}

// Power may go at any write, and a crash leave any number of bytes: what was acknowledged as synced is there, and of the rest a beginning; crashed twice it is as crashed once.
func TestPowerGoesAtEachWrite(t *testing.T) {
	for script := range 8 {
		for k := 1; k < 30; k++ {
			for _, keep := range []int{-1, 0, 1, 2, 5, 8, 13, 40, most} {
				mix := mixer(script)
				f := disk.NewFuse(k)
				x, w := tape.New(f), &twin{}
				for step := 0; befall(t, &mix, x, w); step++ {
					held(t, "in a script", x, w)
					if step > 300 {
						t.Fatalf("a Fuse of %d lasts", k)
					}
				}
				if !f.Dead() {
					t.Fatal("ErrDead of a Fuse that is not dead")
				}
				held(t, "without power", x, w)
				safe, all := bytes.Clone(w.safe), w.all()
				x.Crash(keep)
				w.crash(keep)
				got, _ := x.Bytes()
				if !bytes.HasPrefix(got, safe) || !bytes.HasPrefix(all, got) {
					t.Fatalf("a crash left %v of %v, of which %v were synced", got, all, safe)
				}
				held(t, "behind Crash", x, w)
				x.Crash(keep)
				held(t, "crashed twice", x, w)
				f.Set(0)
				for range 9 {
					befall(t, &mix, x, w)
					held(t, "with power again", x, w)
				}
			}
		}
	}
}

// What befalls a Tape in any order.
func TestScripts(t *testing.T) {
	for script := range 150 {
		mix := mixer(1000 + script)
		f := disk.NewFuse(0)
		x, w := tape.New(f), &twin{}
		for range 200 {
			switch mix.below(12) {
			case 0, 1:
				keep := mix.below(12) - 1
				x.Crash(keep)
				w.crash(keep)
				f.Set(0)
			case 2:
				f.Set(1 + mix.below(6))
			case 3:
				if mix.below(8) == 0 {
					x.Fail()
					isGone(t, "behind Fail", x)
					x.Replace()
					*w = twin{}
				}
			default:
				befall(t, &mix, x, w)
			}
			held(t, "in a script", x, w)
		}
	}
}

// What was synced stays, whatever is refused behind it.
func TestSyncedStays(t *testing.T) {
	f := disk.NewFuse(0)
	x := of(t, f, 6, 0)
	for _, keep := range []int{-1, 0, 1, 99} {
		adds(t, x, []byte{50, 51})
		x.Append(make([]byte, most))
		x.Cut(-1)
		x.Cut(9)
		f.Set(1)
		f.Spend()
		x.Append([]byte{60})
		x.Cut(2)
		x.Sync()
		x.Crash(keep)
		got, e := x.Bytes()
		if e != api.OK || !bytes.HasPrefix(got, from(0, 6)) {
			t.Fatalf("Bytes = %v, %v, want what was synced ahead", got, e)
		}
		f.Set(0)
		cuts(t, x, 6)
	}
	holds(t, "at the end", x, 0, from(0, 6))
}

// Records one behind the other, each synced before the next: a crash takes the last one alone, wholly or its end.
func TestCrashAmongRecords(t *testing.T) {
	for count := range 6 {
		for keep := range 12 {
			x := tape.New(nil)
			var all []byte
			for i := range count {
				all = append(all, from(10*i, 3+i)...)
				adds(t, x, from(10*i, 3+i))
				syncs(t, x)
			}
			last := from(200, 10)
			adds(t, x, last)
			x.Crash(keep)
			holds(t, "behind Crash", x, 0, append(all, last[:min(keep, 10)]...))
		}
	}
}

// Promise 11.3: no call panics.

func TestNoCallPanics(t *testing.T) {
	defer func() {
		if p := recover(); p != nil {
			t.Errorf("a call panicked: %v", p)
		}
	}()
	numbers := append(strange(), 0, 1, 2, 3, 64, 255, most-1, most)
	rows := [][]byte{nil, {}, {1}, make([]byte, 250), make([]byte, most-1), make([]byte, most), make([]byte, most+1), make([]byte, 1<<20)}
	for _, k := range numbers {
		for _, n := range numbers {
			f := disk.NewFuse(k)
			x := tape.New(f)
			for _, b := range rows {
				x.Append(b)
				x.Cut(n)
				x.Crash(n)
			}
			x.Bytes()
			x.Append(rows[2])
			x.Sync()
			x.Fail()
			x.Append(rows[2])
			x.Crash(n)
			x.Cut(n)
			x.Sync()
			x.Bytes()
			x.Loose()
			x.Live()
			x.Fail()
			x.Replace()
			x.Crash(n)
			x.Replace()
			x.Append(rows[3])
			f.Set(n)
			x.Cut(n)
			x.Sync()
		}
	}
}
