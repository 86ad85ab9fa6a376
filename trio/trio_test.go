package trio_test

import (
	"bytes"
	"fmt"
	"math"
	"slices"
	"testing"

	"hypocaust/api"
	"hypocaust/disk"
	"hypocaust/tape"
	"hypocaust/trio"
)

const (
	most    = 65536 // bytes of a Tape
	longest = 250   // bytes of a record
)

// mixer tells numbers that look mixed, the same ones each time.
type mixer uint64

func (m *mixer) below(n int) int {
	*m = *m*6364136223846793005 + 1442695040888963407
	return int(uint64(*m) >> 33 % uint64(n))
}

func (m *mixer) bytes(n int) []byte {
	b := make([]byte, n)
	for i := range b {
		b[i] = byte(m.below(256))
	}
	return b
}

// is tells whether a call answered what it should.
func is(t *testing.T, name string, got, want api.Errno) {
	t.Helper()
	if got != want {
		t.Fatalf("%s: error %d, want %d", name, got, want)
	}
}

// packed tells records as they are written.
func packed(recs ...[]byte) []byte {
	b := []byte{}
	for _, rec := range recs {
		b = append(append(b, byte(len(rec))), rec...)
	}
	return b
}

// texts tells each letter's record: so long as the letter's place in the alphabet, of that letter.
func texts(letters string) [][]byte {
	recs := [][]byte{}
	for _, c := range []byte(letters) {
		recs = append(recs, bytes.Repeat([]byte{c}, int(c-'a')+1))
	}
	return recs
}

// equal tells whether two rows have the same records.
func equal(a, b [][]byte) bool {
	return slices.EqualFunc(a, b, bytes.Equal)
}

// charge gives f power for so many writes: below 0 any number, 0 none.
func charge(f *disk.Fuse, writes int) {
	switch {
	case writes < 0:
		f.Set(0)
	case writes == 0:
		f.Set(1)
		f.Spend()
	default:
		f.Set(writes)
	}
}

// charged makes a Fuse of so many writes.
func charged(writes int) *disk.Fuse {
	f := disk.NewFuse(0)
	charge(f, writes)
	return f
}

// has tells whether just so many writes are left of a Fuse, and spends them.
func has(t *testing.T, name string, f *disk.Fuse, left int) {
	t.Helper()
	for i := range left {
		if !f.Spend() {
			t.Fatalf("%s: %d writes were left, want %d", name, i, left)
		}
	}
	if !f.Dead() {
		t.Fatalf("%s: more than %d writes were left", name, left)
	}
}

// twin is what a Tape should be.
type twin struct {
	none bool // there is no such Tape
	gone bool // it is not live
	held []byte
	safe int
}

func (w twin) live() bool {
	return !w.none && !w.gone
}

// synced is a Tape whose bytes are all safe.
func synced(b []byte) twin {
	return twin{held: b, safe: len(b)}
}

// make makes the Tape.
func (w twin) make(t *testing.T, f *disk.Fuse) *tape.Tape {
	t.Helper()
	if w.none {
		return nil
	}
	x := tape.New(f)
	if x.Append(w.held[:w.safe]) != api.OK || x.Sync() != api.OK {
		t.Fatal("a Tape can't be made")
	}
	if w.safe < len(w.held) && x.Append(w.held[w.safe:]) != api.OK {
		t.Fatal("a Tape can't be made")
	}
	if w.gone {
		x.Fail()
	}
	return x
}

// holds tells whether tape i is as its twin.
func (w twin) holds(t *testing.T, name string, i int, x *tape.Tape) {
	t.Helper()
	if w.none {
		if x != nil {
			t.Fatalf("%s: a tape %d where there was none", name, i)
		}
		return
	}
	if x.Live() == w.gone {
		t.Fatalf("%s: tape %d: Live = %v", name, i, x.Live())
	}
	if loose := x.Loose(); loose != len(w.held)-w.safe {
		t.Fatalf("%s: tape %d: %d bytes are loose, want %d", name, i, loose, len(w.held)-w.safe)
	}
	if got, _ := x.Bytes(); !w.gone && !bytes.Equal(got, w.held) {
		t.Fatalf("%s: tape %d has %v, want %v", name, i, got, w.held)
	}
}

// all makes three Tapes of one Fuse, which then has so many writes.
func all(t *testing.T, l [3]twin, writes int) ([3]*tape.Tape, *disk.Fuse) {
	t.Helper()
	f := disk.NewFuse(0)
	var tapes [3]*tape.Tape
	for i, w := range l {
		tapes[i] = w.make(t, f)
	}
	charge(f, writes)
	return tapes, f
}

// hold tells whether all Tapes are as their twins.
func hold(t *testing.T, name string, tapes [3]*tape.Tape, l [3]twin) {
	t.Helper()
	for i, w := range l {
		w.holds(t, name, i, tapes[i])
	}
}

// opens Opens what may be opened.
func opens(t *testing.T, tapes [3]*tape.Tape) *trio.Trio {
	t.Helper()
	x, _, e := trio.Open(tapes)
	is(t, "Open", e, api.OK)
	return x
}

// adds Appends what may be Appended.
func adds(t *testing.T, x *trio.Trio, recs ...[]byte) {
	t.Helper()
	for _, rec := range recs {
		is(t, "Append", x.Append(rec), api.OK)
	}
}

// Promise 12.1: Split.

// isSplit tells whether b is split to just these records.
func isSplit(t *testing.T, b []byte, want ...[]byte) {
	t.Helper()
	recs, whole := trio.Split(b)
	if !equal(recs, want) || whole != len(packed(want...)) {
		t.Fatalf("Split of %v = %v, %d, want %v", b, recs, whole, want)
	}
}

func TestSplit(t *testing.T) {
	isSplit(t, nil)
	isSplit(t, []byte{})
	isSplit(t, []byte{0})
	isSplit(t, []byte{1})
	isSplit(t, []byte{250})
	isSplit(t, []byte{251})
	isSplit(t, []byte{255})
	isSplit(t, []byte{1, 0}, []byte{0})
	isSplit(t, []byte{2, 0, 0}, []byte{0, 0})
	isSplit(t, []byte{1, 255, 1, 255}, []byte{255}, []byte{255})
	isSplit(t, []byte{1, 1, 1, 1, 1}, []byte{1}, []byte{1})
	isSplit(t, []byte{3, 1, 2, 3, 2, 1, 2, 1, 9}, []byte{1, 2, 3}, []byte{1, 2}, []byte{9})
}

// What is behind a length of 0 or above 250 does not count, whatever it is.
func TestSplitOfEachLength(t *testing.T) {
	behind := packed([]byte{1}, []byte{2, 3})
	for n := range 256 {
		rec := bytes.Repeat([]byte{byte(n)}, n)
		for _, ahead := range [][][]byte{nil, {{5}}, {{5}, {6, 7, 8}}} {
			b := slices.Concat(packed(ahead...), []byte{byte(n)}, rec, behind)
			if n >= 1 && n <= longest {
				isSplit(t, b, slices.Concat(ahead, [][]byte{rec, {1}, {2, 3}})...)
			} else {
				isSplit(t, b, ahead...)
			}
		}
	}
}

// A row is cut at each place: the records that are all there count.
func TestSplitOfWhatIsCut(t *testing.T) {
	var mix mixer
	for range 40 {
		var recs [][]byte
		for range mix.below(6) {
			recs = append(recs, mix.bytes(1+mix.below([]int{4, 30, longest}[mix.below(3)])))
		}
		b := packed(recs...)
		for n := range len(b) + 1 {
			there := 0
			for there < len(recs) && len(packed(recs[:there+1]...)) <= n {
				there++
			}
			isSplit(t, b[:n], recs[:there]...)
		}
		isSplit(t, append(b, 0, 1, 1), recs...)
		isSplit(t, append(b, 251), recs...)
	}
}

// More bytes than a Tape may have are split, too.
func TestSplitOfMany(t *testing.T) {
	for _, n := range []int{1, 2, 249, 250} {
		rec := bytes.Repeat([]byte{7}, n)
		b := bytes.Repeat(packed(rec), 40000)
		recs, whole := trio.Split(b)
		if len(recs) != 40000 || whole != 40000*(n+1) {
			t.Fatalf("%d records of %d bytes: Split tells %d, %d", 40000, n, len(recs), whole)
		}
	}
}

func TestSplitIsNewMemory(t *testing.T) {
	b := []byte{1, 5, 2, 6, 7, 1, 8, 0, 99, 98}
	was := bytes.Clone(b)
	recs, _ := trio.Split(b[:7])
	for i, rec := range recs {
		full := rec[:cap(rec)]
		for j := range full {
			full[j] = byte(200 + i)
		}
	}
	if !bytes.Equal(b, was) {
		t.Fatalf("what was handed in is %v", b)
	}
	if !equal(recs, [][]byte{{200}, {201, 201}, {202}}) {
		t.Fatalf("records share memory: %v", recs)
	}
	isSplit(t, b[:7], []byte{5}, []byte{6, 7}, []byte{8})
}

// Promise 12.1: New.

func TestNew(t *testing.T) {
	for _, f := range []*disk.Fuse{nil, disk.NewFuse(0), disk.NewFuse(1), charged(0)} {
		x := trio.New(f)
		if x.Records() != 0 {
			t.Fatalf("Records = %d", x.Records())
		}
		l := x.Tapes()
		hold(t, "new", l, [3]twin{})
		if l[0] == l[1] || l[1] == l[2] || l[0] == l[2] {
			t.Fatal("Tapes of a new Trio are one")
		}
	}
}

// The Fuse that New was handed is the power of all three.
func TestNewSharesTheFuse(t *testing.T) {
	f := disk.NewFuse(0)
	x := trio.New(f)
	for i, l := range x.Tapes() {
		f.Set(1)
		is(t, "Append to a Tape", l.Append([]byte{1}), api.OK)
		if !f.Dead() {
			t.Fatalf("tape %d has other power", i)
		}
	}
	for i, l := range x.Tapes() {
		is(t, fmt.Sprint("Append to tape ", i), l.Append([]byte{1}), api.ErrDead)
	}
}

func TestTapes(t *testing.T) {
	x := trio.New(nil)
	l := x.Tapes()
	was := l
	l[0], l[1], l[2] = nil, l[2], tape.New(nil)
	if x.Tapes() != was {
		t.Fatal("what Tapes told is the Trio's own")
	}
	was[1].Fail()
	if x.Tapes() != was {
		t.Fatal("a Tape that is not live is another one")
	}
	own := [3]*tape.Tape{tape.New(nil), nil, tape.New(nil)}
	y := opens(t, own)
	was = own
	own[1] = tape.New(nil)
	if y.Tapes() != was {
		t.Fatal("Tapes are not those that were opened")
	}
}

func TestTriosAreApart(t *testing.T) {
	x, y := trio.New(nil), trio.New(nil)
	adds(t, x, []byte{1}, []byte{2})
	adds(t, y, []byte{3})
	hold(t, "the one", x.Tapes(), [3]twin{synced([]byte{1, 1, 1, 2}), synced([]byte{1, 1, 1, 2}), synced([]byte{1, 1, 1, 2})})
	hold(t, "the other", y.Tapes(), [3]twin{synced([]byte{1, 3}), synced([]byte{1, 3}), synced([]byte{1, 3})})
	if x.Records() != 2 || y.Records() != 1 {
		t.Fatalf("Records = %d, %d, want 2, 1", x.Records(), y.Records())
	}
}

// Promise 12.1: Append.

// Each length that a record may have is written, of any bytes; others are not.
func TestAppendOfEachLength(t *testing.T) {
	var mix mixer
	for n := range 600 {
		f := disk.NewFuse(7)
		x := trio.New(f)
		adds(t, x, []byte{9})
		rec := mix.bytes(n)
		want, records, left := synced([]byte{1, 9}), 1, 4
		if n >= 1 && n <= longest {
			adds(t, x, rec)
			want, records, left = synced(packed([]byte{9}, rec)), 2, 1
		} else {
			is(t, "Append", x.Append(rec), api.ErrArg)
		}
		hold(t, "behind Append", x.Tapes(), [3]twin{want, want, want})
		if x.Records() != records {
			t.Fatalf("behind %d bytes: Records = %d, want %d", n, x.Records(), records)
		}
		has(t, "behind Append", f, left)
	}
}

func TestAppendOfWrongLengths(t *testing.T) {
	for _, rec := range [][]byte{nil, {}, make([]byte, 251), make([]byte, 255), make([]byte, 256), make([]byte, 257), make([]byte, 256+9), make([]byte, 1<<16+1), make([]byte, 1<<20)} {
		f := disk.NewFuse(1)
		x := trio.New(f)
		is(t, fmt.Sprintf("Append of %d bytes", len(rec)), x.Append(rec), api.ErrArg)
		hold(t, "behind it", x.Tapes(), [3]twin{})
		has(t, "behind it", f, 1)
	}
}

func TestAppends(t *testing.T) {
	var mix mixer
	x := trio.New(nil)
	var recs [][]byte
	for i := range 200 {
		rec := mix.bytes(1 + mix.below(longest))
		adds(t, x, rec)
		recs = append(recs, rec)
		want := synced(packed(recs...))
		hold(t, "behind Append", x.Tapes(), [3]twin{want, want, want})
		if x.Records() != i+1 {
			t.Fatalf("Records = %d, want %d", x.Records(), i+1)
		}
	}
}

// A record is written to the Tapes that are live, as long as two are.
func TestAppendToWhatIsLive(t *testing.T) {
	none, gone, there := twin{none: true}, twin{gone: true}, synced([]byte{1, 5})
	kinds := []twin{none, gone, there}
	for _, a := range kinds {
		for _, b := range kinds {
			for _, c := range kinds {
				appendToWhatIsLive(t, [3]twin{a, b, c})
			}
		}
	}
}

func appendToWhatIsLive(t *testing.T, l [3]twin) {
	t.Helper()
	// Opened while they are live, for an Open needs two as well.
	opened := l
	for i := range opened {
		if opened[i].gone {
			opened[i] = synced([]byte{1, 5})
		}
	}
	tapes, f := all(t, opened, -1)
	x, recs, e := trio.Open(tapes)
	if e == api.ErrLog {
		return
	}
	live := 0
	for i := range l {
		if l[i].gone {
			tapes[i].Fail()
			l[i] = twin{gone: true, held: []byte{1, 5}, safe: 2}
		}
		if l[i].live() {
			live++
			l[i] = synced([]byte{1, 5, 2, 6, 7})
		}
	}
	f.Set(4)
	if live < 2 {
		is(t, "Append to fewer than two", x.Append([]byte{6, 7}), api.ErrLog)
		is(t, "Append of none to fewer than two", x.Append(nil), api.ErrArg)
		is(t, "Append of too many to fewer than two", x.Append(make([]byte, 251)), api.ErrArg)
		has(t, "behind ErrLog", f, 4)
		if x.Records() != len(recs) {
			t.Fatalf("behind ErrLog: Records = %d, want %d", x.Records(), len(recs))
		}
		return
	}
	adds(t, x, []byte{6, 7})
	hold(t, "behind Append", tapes, l)
	has(t, "behind Append", f, 4-live)
	if x.Records() != 2 {
		t.Fatalf("behind Append: Records = %d, want 2", x.Records())
	}
}

// Tapes that come back are written again.
func TestAppendBehindReplace(t *testing.T) {
	x := trio.New(nil)
	l := x.Tapes()
	adds(t, x, []byte{1})
	l[0].Fail()
	adds(t, x, []byte{2})
	l[1].Fail()
	is(t, "Append to one", x.Append([]byte{3}), api.ErrLog)
	l[0].Replace()
	adds(t, x, []byte{4})
	l[2].Fail()
	is(t, "Append to one", x.Append([]byte{5}), api.ErrLog)
	l[1].Replace()
	adds(t, x, []byte{6})
	hold(t, "behind it", l, [3]twin{synced(packed([]byte{4}, []byte{6})), synced(packed([]byte{6})), {gone: true}})
	if x.Records() != 4 {
		t.Fatalf("Records = %d, want 4", x.Records())
	}
}

// filled makes a Tape of so many bytes: a record's, and noughts that are none.
func filled(n int) twin {
	return synced(append(packed([]byte{5}), make([]byte, n-2)...))
}

// ErrFull is of each live Tape, whichever it is, and nothing is written then.
func TestFull(t *testing.T) {
	for _, n := range []int{1, 2, 100, longest} {
		for room := n - 1; room <= n+3; room++ {
			for which := range 3 {
				l := [3]twin{filled(2), filled(2), filled(2)}
				tapes, f := all(t, l, -1)
				x := opens(t, tapes)
				l[which] = filled(most - room)
				is(t, "Append to a Tape", tapes[which].Append(l[which].held[2:]), api.OK)
				is(t, "Sync of a Tape", tapes[which].Sync(), api.OK)
				f.Set(4)
				rec := bytes.Repeat([]byte{3}, n)
				if room < n+1 {
					is(t, "Append of too many", x.Append(rec), api.ErrFull)
					hold(t, "behind ErrFull", tapes, l)
					has(t, "behind ErrFull", f, 4)
					is(t, "Append without power of too many", x.Append(rec), api.ErrFull)
					if x.Records() != 1 {
						t.Fatalf("behind ErrFull: Records = %d", x.Records())
					}
					continue
				}
				adds(t, x, rec)
				for i := range l {
					l[i] = synced(slices.Concat(l[i].held, packed(rec)))
				}
				hold(t, "behind Append", tapes, l)
				has(t, "behind Append", f, 1)
			}
		}
	}
}

// A full Tape that is not live keeps no record from the others; two Tapes that are not live come ahead of a full one.
func TestFullAndNotLive(t *testing.T) {
	l := [3]twin{filled(2), filled(2), filled(2)}
	tapes, f := all(t, l, -1)
	x := opens(t, tapes)
	is(t, "Append to a Tape", tapes[1].Append(make([]byte, most-2)), api.OK)
	is(t, "Append", x.Append([]byte{1}), api.ErrFull)
	is(t, "Append of none", x.Append(nil), api.ErrArg)
	is(t, "Append of too many", x.Append(make([]byte, 251)), api.ErrArg)
	charge(f, 0)
	is(t, "Append without power", x.Append([]byte{1}), api.ErrFull)
	charge(f, -1)
	tapes[1].Fail()
	adds(t, x, []byte{1})
	if x.Records() != 2 {
		t.Fatalf("Records = %d, want 2", x.Records())
	}
	tapes[1].Replace()
	is(t, "Append to a Tape", tapes[1].Append(make([]byte, most)), api.OK)
	tapes[0].Fail()
	is(t, "Append", x.Append([]byte{1}), api.ErrFull)
	tapes[2].Fail()
	is(t, "Append", x.Append([]byte{1}), api.ErrLog)
}

// A Trio is filled to the last byte by records alone.
func TestFullOfRecords(t *testing.T) {
	x := trio.New(nil)
	rec := make([]byte, longest)
	for range most / (longest + 1) {
		adds(t, x, rec)
	}
	left := most % (longest + 1)
	is(t, "Append", x.Append(rec[:left]), api.ErrFull)
	adds(t, x, rec[:left-1])
	for n := 1; n <= longest; n++ {
		is(t, "Append to full ones", x.Append(rec[:n]), api.ErrFull)
	}
	y := opens(t, x.Tapes())
	if y.Records() != x.Records() || x.Records() != most/(longest+1)+1 {
		t.Fatalf("Records = %d, opened %d", x.Records(), y.Records())
	}
	is(t, "Append to full ones", y.Append(rec[:1]), api.ErrFull)
}

// Power goes in an Append: what was Appended is loose, and nothing more is done.
func TestAppendWithoutPower(t *testing.T) {
	rec := []byte{6, 7}
	for dead := -1; dead < 3; dead++ {
		for writes := range 5 {
			was := synced([]byte{1, 5})
			l := [3]twin{was, was, was}
			tapes, f := all(t, l, -1)
			x := opens(t, tapes)
			if dead >= 0 {
				tapes[dead].Fail()
				l[dead].gone = true
			}
			charge(f, writes)
			left := writes
			want := api.OK
			for i := range l {
				if l[i].live() && want == api.OK {
					if left == 0 {
						want = api.ErrDead
						continue
					}
					left--
					l[i].held = slices.Concat(l[i].held, packed(rec))
				}
			}
			if left == 0 {
				want = api.ErrDead
			}
			records := 1
			if want == api.OK {
				records++
			}
			for i := range l {
				if want == api.OK && l[i].live() {
					l[i].safe = len(l[i].held)
				}
			}
			is(t, "Append", x.Append(rec), want)
			hold(t, "behind Append", tapes, l)
			if x.Records() != records {
				t.Fatalf("behind error %d: Records = %d, want %d", want, x.Records(), records)
			}
		}
	}
}

// Each Tape may have power of its own: all Appends are ahead of all Syncs, both in order, and the first that has none ends the call.
func TestAppendOfUnlikePower(t *testing.T) {
	for mask := range 64 {
		powers := [3]int{mask % 4, mask / 4 % 4, mask / 16}
		var tapes [3]*tape.Tape
		var l [3]twin
		var fuses [3]*disk.Fuse
		for i := range tapes {
			fuses[i] = charged(-1)
			l[i] = synced([]byte{1, 5})
			tapes[i] = l[i].make(t, fuses[i])
		}
		x := opens(t, tapes)
		want := api.OK
		for i, f := range fuses {
			charge(f, powers[i])
			if want == api.OK && powers[i] > 0 {
				l[i].held = []byte{1, 5, 1, 9}
			} else {
				want = api.ErrDead
			}
		}
		for i := range l {
			if want == api.OK && powers[i] > 1 {
				l[i].safe = 4
			} else {
				want = api.ErrDead
			}
		}
		is(t, "Append", x.Append([]byte{9}), want)
		hold(t, fmt.Sprintf("behind Append with power for %v", powers), tapes, l)
	}
}

// Once there is power again a Trio goes on; what was loose on a Tape stays there.
func TestAppendWithPowerAgain(t *testing.T) {
	f := disk.NewFuse(1)
	x := trio.New(f)
	is(t, "Append", x.Append([]byte{1}), api.ErrDead)
	is(t, "Append", x.Append([]byte{2}), api.ErrDead)
	f.Set(0)
	adds(t, x, []byte{3})
	hold(t, "behind it", x.Tapes(), [3]twin{synced([]byte{1, 1, 1, 3}), synced([]byte{1, 3}), synced([]byte{1, 3})})
	if x.Records() != 1 {
		t.Fatalf("Records = %d, want 1", x.Records())
	}
}

func TestAppendKeepsNothing(t *testing.T) {
	row := []byte{1, 2, 3, 44, 45, 46}
	x := trio.New(nil)
	adds(t, x, row[:3], row[1:2])
	if !bytes.Equal(row, []byte{1, 2, 3, 44, 45, 46}) {
		t.Fatalf("what was handed in is %v", row)
	}
	clear(row)
	want := synced([]byte{3, 1, 2, 3, 1, 2})
	hold(t, "behind it", x.Tapes(), [3]twin{want, want, want})
}

// Promise 12.2: Open.

// counting tells the bytes that count, by rows of bytes that two live Tapes begin with.
func counting(l [3]twin) []byte {
	best := []byte{}
	for _, w := range l {
		for n := len(best) + 1; w.live() && n <= len(w.held); n++ {
			row := w.held[:n]
			have := 0
			for _, o := range l {
				if o.live() && bytes.HasPrefix(o.held, row) {
					have++
				}
			}
			if have >= 2 && shared(row, row) == n {
				best = row
			}
		}
	}
	return best
}

// shared tells how many bytes of a are whole records that b begins with, too.
func shared(a, b []byte) int {
	at := 0
	for at < len(a) && a[at] >= 1 && a[at] <= longest {
		end := at + 1 + int(a[at])
		if end > len(a) || !bytes.HasPrefix(b, a[:end]) {
			break
		}
		at = end
	}
	return at
}

// opened tells what Open should answer, and what it should leave.
func opened(l [3]twin, writes int) (left [3]twin, counts []byte, e api.Errno) {
	live := 0
	for _, w := range l {
		if w.live() {
			live++
		}
	}
	if live < 2 {
		return l, nil, api.ErrLog
	}
	spend := func() bool {
		writes--
		return writes != -1
	}
	counts = counting(l)
	for i, w := range l {
		if !w.live() || bytes.Equal(w.held, counts) {
			continue
		}
		if !spend() {
			return l, nil, api.ErrDead
		}
		l[i] = synced(w.held[:shared(w.held, counts)])
		if !spend() {
			return l, nil, api.ErrDead
		}
		l[i].held = counts
		if writes == 0 {
			return l, nil, api.ErrDead
		}
		l[i].safe = len(counts)
	}
	return l, counts, api.OK
}

// isOpened tells whether Open answers, and leaves, what it should.
func isOpened(t *testing.T, l [3]twin, writes int) {
	t.Helper()
	defer tellOf(t, "Open of %v with power for %d", l, writes)
	tapes, f := all(t, l, writes)
	left, counts, want := opened(l, writes)
	x, recs, e := trio.Open(tapes)
	is(t, "Open", e, want)
	hold(t, "behind Open", tapes, left)
	if e != api.OK {
		if x != nil || recs != nil {
			t.Fatalf("error %d beside %v, %v", e, x, recs)
		}
		return
	}
	if !bytes.Equal(packed(recs...), counts) {
		t.Fatalf("records %v, want %v", recs, counts)
	}
	if x.Records() != len(recs) || x.Tapes() != tapes {
		t.Fatalf("Records = %d, want %d, or other Tapes", x.Records(), len(recs))
	}
	// What is as it should be needs no power.
	charge(f, 0)
	_, again, e := trio.Open(tapes)
	is(t, "Open once more", e, api.OK)
	if !equal(again, recs) {
		t.Fatalf("records %v, once more %v", recs, again)
	}
	hold(t, "behind Open once more", tapes, left)
}

// tellOf tells of what a test failed; deferred, for a text made ahead of each of many checks would take longer than they do.
func tellOf(t *testing.T, format string, of ...any) {
	t.Helper()
	if t.Failed() {
		t.Logf(format, of...)
	}
}

func TestOpenExamples(t *testing.T) {
	a, b := []byte{1, 7}, []byte{2, 8, 9}
	ab := slices.Concat(a, b)
	for _, o := range []struct {
		tapes [3]twin
		want  [][]byte
	}{
		{[3]twin{synced(ab), synced(ab[:4]), synced(ab)}, [][]byte{{7}, {8, 9}}},
		{[3]twin{synced(b), synced(b), synced(b[:2])}, [][]byte{{8, 9}}},
		{[3]twin{synced(b[:2]), synced(b), synced(b)}, [][]byte{{8, 9}}},
		{[3]twin{synced(ab), synced(a), synced(nil)}, [][]byte{{7}}},
		{[3]twin{synced(a), {none: true}, synced(ab)}, [][]byte{{7}}},
		{[3]twin{synced(b), synced(ab), synced(a)}, [][]byte{{7}}},
		{[3]twin{synced(a), synced(b), synced(nil)}, nil},
	} {
		tapes, _ := all(t, o.tapes, -1)
		_, recs, e := trio.Open(tapes)
		if e != api.OK || !equal(recs, o.want) {
			t.Errorf("Open of %v = %v, %d, want %v", o.tapes, recs, e, o.want)
		}
		isOpened(t, o.tapes, -1)
	}
}

// lots are Tapes of all kinds: rows of up to three records, whole and with something behind them, synced and loose, and none.
func lots() []twin {
	lots := []twin{{none: true}, {gone: true, held: packed(texts("a")...), safe: 1}}
	for _, letters := range []string{"", "a", "b", "aa", "ab", "ba", "bb", "aab", "aba", "abb"} {
		row := packed(texts(letters)...)
		lots = append(lots, synced(row))
		lots = append(lots, synced(append(slices.Clone(row), 2, 'b')))
		if letters != "" {
			lots = append(lots, twin{held: append(slices.Clone(row), 0, 'a'), safe: len(row) - 1})
		}
	}
	return append(lots, synced([]byte{251}), synced([]byte{1}), twin{held: packed(texts("abba")...)})
}

// All Tapes of lots, with power that goes at each write.
func TestOpenOfLots(t *testing.T) {
	lots := lots()
	for _, a := range lots {
		for _, b := range lots {
			for _, c := range lots {
				for writes := -1; writes < 8; writes++ {
					isOpened(t, [3]twin{a, b, c}, writes)
				}
			}
		}
	}
}

// Long Tapes that part at any record, with anything behind it.
func TestOpenOfLongTapes(t *testing.T) {
	mix := mixer(3)
	for range 600 {
		var recs [][]byte
		for range mix.below(30) {
			recs = append(recs, mix.bytes(1+mix.below([]int{3, 40, longest}[mix.below(3)])))
		}
		var l [3]twin
		for i := range l {
			row := packed(recs[:mix.below(len(recs)+1)]...)
			if mix.below(2) == 0 {
				row = append(row, mix.bytes(mix.below(300))...)
			}
			l[i] = twin{held: row, safe: mix.below(len(row) + 1), gone: mix.below(9) == 0}
		}
		isOpened(t, l, mix.below(9)-1)
	}
}

// A byte that is another one ends what is alike, wherever it is.
func TestOpenOfAChangedByte(t *testing.T) {
	row := packed(texts("abcd")...)
	for which := range 3 {
		for at := range row {
			for _, by := range []byte{1, 2, 128, 255} {
				other := slices.Clone(row)
				other[at] ^= by
				l := [3]twin{synced(row), synced(row), synced(row)}
				l[which] = synced(other)
				isOpened(t, l, -1)
				l[(which+1)%3] = twin{none: true}
				isOpened(t, l, -1)
				l[(which+1)%3] = synced(other)
				isOpened(t, l, -1)
			}
		}
	}
}

func TestOpenOfFullTapes(t *testing.T) {
	rec := bytes.Repeat([]byte{4}, longest)
	row := bytes.Repeat(packed(rec), most/(longest+1))
	full := append(slices.Clone(row), 24)
	full = append(full, make([]byte, most-len(full))...)
	for _, l := range [][3]twin{
		{synced(full), synced(full), synced(full)},
		{synced(full), synced(nil), synced(full)},
		{synced(full), synced(row), synced(row)},
		{synced(full), synced(row[:len(row)-1]), {none: true}},
		{synced(make([]byte, most)), synced(row), synced(row)},
		{synced(full), {held: full}, {held: row}},
	} {
		isOpened(t, l, -1)
		isOpened(t, l, 3)
	}
}

// Fewer than two live Tapes: nothing is touched, with power or without.
func TestOpenOfTooFew(t *testing.T) {
	row := append(packed(texts("ab")...), 9, 9)
	live := twin{held: row, safe: 2}
	for _, other := range []twin{{none: true}, {gone: true, held: row}} {
		for _, l := range [][3]twin{{live, other, other}, {other, live, other}, {other, other, live}, {other, other, other}} {
			for writes := -1; writes < 3; writes++ {
				tapes, f := all(t, l, writes)
				x, recs, e := trio.Open(tapes)
				if x != nil || recs != nil || e != api.ErrLog {
					t.Fatalf("Open of %v = %v, %v, %d, want ErrLog", l, x, recs, e)
				}
				hold(t, "behind ErrLog", tapes, l)
				if writes >= 0 {
					has(t, "behind ErrLog", f, writes)
				}
			}
		}
	}
}

// Each Tape that is not just these is two writes, one that is none.
func TestOpenSpends(t *testing.T) {
	row := packed(texts("ab")...)
	for mask := range 8 {
		var l [3]twin
		spends := 0
		for i := range l {
			l[i] = synced(row)
			if mask>>i&1 == 1 {
				l[i] = synced(append(slices.Clone(row), byte(7-i)))
				spends += 2
			}
		}
		tapes, f := all(t, l, 9)
		opens(t, tapes)
		has(t, fmt.Sprintf("behind Open of %v", l), f, 9-spends)
	}
}

func TestOpenIsNewMemory(t *testing.T) {
	row := packed(texts("abc")...)
	l := [3]twin{synced(row), synced(row), synced(append(slices.Clone(row), 1, 1))}
	tapes, _ := all(t, l, -1)
	x, recs, _ := trio.Open(tapes)
	for i, rec := range recs {
		full := rec[:cap(rec)]
		for j := range full {
			full[j] = byte(i)
		}
	}
	if !equal(recs, [][]byte{{0}, {1, 1}, {2, 2, 2}}) {
		t.Fatalf("records share memory: %v", recs)
	}
	hold(t, "behind it", x.Tapes(), [3]twin{synced(row), synced(row), synced(row)})
	if _, again, _ := trio.Open(x.Tapes()); !equal(again, texts("abc")) {
		t.Fatalf("records are %v", again)
	}
}

// What was opened goes on as one that was never closed.
func TestAppendBehindOpen(t *testing.T) {
	f := disk.NewFuse(0)
	x := trio.New(f)
	for i := range 40 {
		adds(t, x, []byte{byte(i), 1})
		x = opens(t, x.Tapes())
		if x.Records() != i+1 {
			t.Fatalf("Records = %d, want %d", x.Records(), i+1)
		}
		if i%10 == 5 {
			x.Tapes()[i/10%3].Replace()
		}
	}
}

// Promise 12.2: Mend.

// strange are numbers that no Tape has.
func strange() []int {
	return []int{math.MinInt, -1 << 32, -3, -2, -1, 3, 4, 5, 255, 256, 1 << 32, 1<<32 + 1, math.MaxInt}
}

func TestMendOfNoTape(t *testing.T) {
	f := disk.NewFuse(0)
	x := trio.New(f)
	adds(t, x, []byte{5})
	f.Set(1)
	for _, i := range strange() {
		is(t, fmt.Sprintf("Mend(%d)", i), x.Mend(i), api.ErrArg)
	}
	want := synced([]byte{1, 5})
	hold(t, "behind it", x.Tapes(), [3]twin{want, want, want})
	has(t, "behind it", f, 1)
}

// mended tells what Mend should answer, and what it should leave.
func mended(l [3]twin, i, writes int) ([3]twin, api.Errno) {
	if i < 0 || i > 2 || !l[i].live() {
		return l, api.ErrArg
	}
	from := -1
	for j := 2; j >= 0; j-- {
		if j != i && l[j].live() {
			from = j
		}
	}
	if from < 0 {
		return l, api.ErrLog
	}
	if writes == 0 {
		return l, api.ErrDead
	}
	l[i] = twin{}
	if writes == 1 {
		return l, api.ErrDead
	}
	l[i].held = l[from].held
	if writes == 2 {
		return l, api.ErrDead
	}
	l[i].safe = len(l[from].held)
	return l, api.OK
}

// What is on Tapes is copied as it is: whole records, or not.
func TestMendOfLots(t *testing.T) {
	there := []twin{synced(nil), synced(packed(texts("a")...)), {held: append(packed(texts("ab")...), 7, 7, 7), safe: 3}}
	kinds := append([]twin{{none: true}, {gone: true, held: packed(texts("aaa")...), safe: 2}}, there...)
	for _, a := range kinds {
		for _, b := range kinds {
			for _, c := range kinds {
				for i := -1; i < 4; i++ {
					for writes := -1; writes < 5; writes++ {
						isMended(t, [3]twin{a, b, c}, i, writes)
					}
				}
			}
		}
	}
}

// isMended tells whether Mend answers, and leaves, what it should. No Trio has fewer than two Tapes, live or not.
func isMended(t *testing.T, l [3]twin, i, writes int) {
	t.Helper()
	if l[0].none && l[1].none || l[1].none && l[2].none || l[0].none && l[2].none {
		return
	}
	x, tapes, f := ofThese(t, l)
	records := x.Records()
	charge(f, writes)
	defer tellOf(t, "Mend(%d) of %v with power for %d", i, l, writes)
	left, want := mended(l, i, writes)
	is(t, "Mend", x.Mend(i), want)
	hold(t, "behind Mend", tapes, left)
	if x.Records() != records || x.Tapes() != tapes {
		t.Fatalf("Records = %d, want %d, or other Tapes", x.Records(), records)
	}
	spent := 0
	if want == api.OK {
		spent = 2
	}
	if writes > 0 && want != api.ErrDead {
		has(t, "behind Mend", f, writes-spent)
	}
}

// ofThese makes a Trio of such Tapes, though Open would not leave them so, nor open them.
func ofThese(t *testing.T, l [3]twin) (*trio.Trio, [3]*tape.Tape, *disk.Fuse) {
	t.Helper()
	f := disk.NewFuse(0)
	var tapes [3]*tape.Tape
	for i, w := range l {
		if !w.none {
			tapes[i] = tape.New(f)
		}
	}
	x := opens(t, tapes)
	for i, w := range l {
		if !w.none {
			*tapes[i] = *w.make(t, f)
		}
	}
	return x, tapes, f
}

// A tape that was replaced is what the others are once it is Mended; then another one may be lost.
func TestMendBehindReplace(t *testing.T) {
	for i := range 3 {
		for lost := range 3 {
			x := trio.New(nil)
			adds(t, x, texts("abc")...)
			l := x.Tapes()
			l[i].Fail()
			adds(t, x, texts("d")...)
			is(t, "Mend of a Tape that is not live", x.Mend(i), api.ErrArg)
			l[i].Replace()
			is(t, "Mend", x.Mend(i), api.OK)
			if x.Records() != 4 {
				t.Fatalf("Records = %d, want 4", x.Records())
			}
			want := synced(packed(texts("abcd")...))
			hold(t, "behind Mend", l, [3]twin{want, want, want})
			adds(t, x, texts("e")...)
			l[lost].Fail()
			if _, recs, e := trio.Open(l); e != api.OK || !equal(recs, texts("abcde")) {
				t.Fatalf("tape %d Mended, %d lost: Open = %v, %d", i, lost, recs, e)
			}
		}
	}
}

func TestMendOfFullTapes(t *testing.T) {
	l := [3]twin{synced(make([]byte, most)), synced(bytes.Repeat([]byte{1}, most)), synced(nil)}
	for i := range 3 {
		isMended(t, l, i, 3)
		isMended(t, l, i, 2)
	}
}

// Promise 12.3 (W2): what was acknowledged is there as long as two of three are; what was not counts wholly, or not at all.

// cut is one way in which power goes: how many writes it lasts for, and how many loose bytes each tape keeps.
type cut struct {
	writes int
	keeps  [3]int
}

// crash lets each tape lose what is loose, but so many bytes.
func crash(tapes [3]*tape.Tape, keeps [3]int) {
	for i, x := range tapes {
		if x != nil {
			x.Crash(keeps[i])
		}
	}
}

// written makes a Trio and Appends till power goes; it tells how many records were acknowledged.
func written(t *testing.T, recs [][]byte, c cut) (tapes [3]*tape.Tape, f *disk.Fuse, done int) {
	t.Helper()
	f = charged(c.writes)
	x := trio.New(f)
	for _, rec := range recs {
		e := x.Append(rec)
		if e == api.ErrDead {
			break
		}
		is(t, "Append", e, api.OK)
		done++
	}
	if x.Records() != done {
		t.Fatalf("Records = %d, want %d", x.Records(), done)
	}
	crash(x.Tapes(), c.keeps)
	return x.Tapes(), f, done
}

// lose takes tape which away, in one of three ways; below 0 none.
func lose(tapes *[3]*tape.Tape, which, how int) {
	if which < 0 {
		return
	}
	switch how {
	case 0:
		tapes[which] = nil
	case 1:
		tapes[which].Fail()
	default:
		tapes[which].Replace()
	}
}

// isThere tells whether recs begin with what was acknowledged, and what is behind it is the record that was under way.
func isThere(t *testing.T, name string, recs, wrote [][]byte, done int) {
	t.Helper()
	if len(recs) < done || len(recs) > min(done+1, len(wrote)) || !equal(recs, wrote[:len(recs)]) {
		t.Fatalf("%s: %v, want %v, of which %d were acknowledged", name, recs, wrote, done)
	}
}

// keeps tells all ways in which three tapes may lose what is loose of a record of so many bytes.
func keeps(n int) [][3]int {
	var keeps [][3]int
	for a := range n + 2 {
		for b := range n + 2 {
			for c := range n + 2 {
				keeps = append(keeps, [3]int{a, b, c})
			}
		}
	}
	return keeps
}

// Power goes at each write, each tape keeps what it may, any one of them is lost, and power goes at each write of the Open, too.
func TestPowerGoes(t *testing.T) {
	wrote := texts("abbab")
	for writes := range 3*len(wrote) + 2 {
		for _, keep := range keeps(2) {
			for which := -1; which < 3; which++ {
				for how := range 3 {
					if which >= 0 || how == 0 {
						powerGoesInOpen(t, wrote, cut{writes, keep}, which, how)
					}
				}
			}
		}
	}
}

func powerGoesInOpen(t *testing.T, wrote [][]byte, c cut, which, how int) {
	t.Helper()
	writes := -1
	defer func() {
		tellOf(t, "power for %d, %d kept, tape %d lost (%d), power for %d", c.writes, c.keeps, which, how, writes)
	}()
	for ; writes < 7; writes++ {
		tapes, f, done := written(t, wrote, c)
		lose(&tapes, which, how)
		charge(f, writes)
		_, recs, e := trio.Open(tapes)
		if e == api.ErrDead && writes >= 0 {
			crash(tapes, [3]int{c.keeps[1], c.keeps[2], c.keeps[0]})
			charge(f, -1)
			_, recs, e = trio.Open(tapes)
		}
		is(t, "Open", e, api.OK)
		isThere(t, "opened", recs, wrote, done)
		// What Open told is acknowledged: no crash takes it, and nothing is left to write.
		crash(tapes, [3]int{})
		charge(f, 0)
		isOnTwo(t, "opened again", tapes, recs)
	}
}

// isOnTwo tells whether any two of the live Tapes give just these records.
func isOnTwo(t *testing.T, name string, tapes [3]*tape.Tape, want [][]byte) {
	t.Helper()
	for out := -1; out < 3; out++ {
		some := tapes
		if out >= 0 {
			some[out] = nil
		}
		live := 0
		for _, x := range some {
			if x != nil && x.Live() {
				live++
			}
		}
		if live < 2 {
			continue
		}
		_, recs, e := trio.Open(some)
		if e != api.OK || !equal(recs, want) {
			t.Fatalf("%s: without tape %d Open = %v, %d, want %v", name, out, recs, e, want)
		}
	}
}

// Power goes in a Mend of a tape that was replaced: the other two have all.
func TestPowerGoesInMend(t *testing.T) {
	wrote := texts("abca")
	for which := range 3 {
		for writes := range 4 {
			for keep := range len(packed(wrote...)) + 2 {
				f := disk.NewFuse(0)
				x := trio.New(f)
				adds(t, x, wrote...)
				tapes := x.Tapes()
				tapes[which].Replace()
				charge(f, writes)
				e := x.Mend(which)
				if (e == api.OK) != (writes == 3) || e != api.OK && e != api.ErrDead {
					t.Fatalf("Mend with power for %d: error %d", writes, e)
				}
				crash(tapes, [3]int{keep, keep, keep})
				charge(f, -1)
				if e == api.OK {
					isOnTwo(t, "behind Mend", tapes, wrote)
				}
				_, recs, e := trio.Open(tapes)
				is(t, "Open", e, api.OK)
				if !equal(recs, wrote) {
					t.Fatalf("records %v, want %v", recs, wrote)
				}
				isOnTwo(t, "behind Open", tapes, wrote)
			}
		}
	}
}

// script is a Trio, what was acknowledged, what may be there too, and which tape is lost.
type script struct {
	mix   mixer
	f     *disk.Fuse
	x     *trio.Trio
	done  [][]byte
	under []byte // the record that was under way when power went
	lost  int    // below 0: none
}

// add Appends a record, and tells whether there was power.
func (s *script) add(t *testing.T) bool {
	t.Helper()
	rec := s.mix.bytes(1 + s.mix.below(6))
	e := s.x.Append(rec)
	if e == api.ErrDead {
		s.under = rec
		return false
	}
	is(t, "Append", e, api.OK)
	s.done = append(s.done, rec)
	return true
}

// befall lets a tape fail, come back empty, or be Mended; one at most is lost. It tells whether there was power.
func (s *script) befall(t *testing.T) bool {
	t.Helper()
	if s.lost < 0 {
		s.lost = s.mix.below(3)
		s.x.Tapes()[s.lost].Fail()
		return true
	}
	if s.mix.below(2) == 0 {
		s.x.Tapes()[s.lost].Replace()
	}
	switch e := s.x.Mend(s.lost); e {
	case api.OK:
		s.lost = -1
	case api.ErrArg:
		if s.x.Tapes()[s.lost].Live() {
			t.Fatal("ErrArg of a live Tape")
		}
	default:
		is(t, "Mend", e, api.ErrDead)
		return false
	}
	return true
}

// restart lets power go and Opens, again and again, till there is power enough.
func (s *script) restart(t *testing.T) {
	t.Helper()
	tapes := s.x.Tapes()
	for writes := s.mix.below(4); ; writes++ {
		crash(tapes, [3]int{s.mix.below(9), s.mix.below(9), s.mix.below(9)})
		charge(s.f, writes)
		x, recs, e := trio.Open(tapes)
		if e == api.ErrDead {
			continue
		}
		is(t, "Open", e, api.OK)
		if s.under != nil {
			isThere(t, "in a script", recs, append(slices.Clone(s.done), s.under), len(s.done))
		} else if !equal(recs, s.done) {
			t.Fatalf("in a script: %v, want %v", recs, s.done)
		}
		s.x, s.done, s.under = x, recs, nil
		if s.lost >= 0 && tapes[s.lost].Live() {
			s.lost = -1
		}
		charge(s.f, []int{-1, s.mix.below(20)}[s.mix.below(2)])
		return
	}
}

func TestScripts(t *testing.T) {
	for i := range 400 {
		f := charged(i % 30)
		s := &script{mix: mixer(i), f: f, x: trio.New(f), lost: -1}
		for range 80 {
			power := true
			switch s.mix.below(10) {
			case 0:
				power = false
			case 1, 2:
				power = s.befall(t)
			default:
				power = s.add(t)
			}
			if !power {
				s.restart(t)
			}
			if s.x.Records() != len(s.done) {
				t.Fatalf("Records = %d, want %d", s.x.Records(), len(s.done))
			}
		}
	}
}

// Promise 12.4 (W8): every call ends and none panics.

func TestNoCallPanics(t *testing.T) {
	var mix mixer
	f := disk.NewFuse(0)
	rows := [][]byte{nil, {}, {0}, {1}, {1, 1}, {250}, {251}, {255}, make([]byte, most), bytes.Repeat([]byte{1}, most), bytes.Repeat([]byte{255}, most), mix.bytes(most), mix.bytes(999)}
	var kinds []*tape.Tape
	for _, row := range rows {
		trio.Split(row)
		kinds = append(kinds, synced(row).make(t, f), twin{gone: true, held: row}.make(t, f))
	}
	kinds = append(kinds, nil)
	numbers := append(strange(), 0, 1, 2)
	for range 600 {
		// One Tape may be handed in twice.
		l := [3]*tape.Tape{kinds[mix.below(len(kinds))], kinds[mix.below(len(kinds))], kinds[mix.below(len(kinds))]}
		charge(f, mix.below(9)-1)
		x, _, e := trio.Open(l)
		if e != api.OK {
			continue
		}
		for range 4 {
			x.Append(rows[mix.below(len(rows))])
			x.Append(mix.bytes(1 + mix.below(longest)))
			x.Mend(numbers[mix.below(len(numbers))])
			x.Records()
			x.Tapes()
			charge(f, mix.below(9)-1)
		}
		for i, k := range kinds {
			// Those that were cut are as they were made again.
			if k != nil && k.Live() {
				k.Replace()
				charge(f, -1)
				k.Append(rows[i/2])
			}
		}
	}
}
