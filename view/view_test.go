package view_test

import (
	"bytes"
	"encoding/hex"
	"fmt"
	"math"
	"math/bits"
	"slices"
	"strings"
	"testing"

	"hypocaust/api"
	"hypocaust/disk"
	"hypocaust/frame"
	"hypocaust/gf"
	"hypocaust/meta"
	"hypocaust/rack"
	"hypocaust/view"
)

// mixer tells numbers that look mixed, the same ones each time.
type mixer uint64

func (m *mixer) below(n int) int {
	*m = *m*6364136223846793005 + 1442695040888963407
	return int(uint64(*m) >> 33 % uint64(n))
}

func (m *mixer) bytes(n int) []byte {
	b := make([]byte, n)
	for i := range b {
		b[i] = byte(m.below(256))
	}
	return b
}

func (m *mixer) rows(count, n int) [][]byte {
	l := make([][]byte, count)
	for i := range l {
		l[i] = m.bytes(n)
	}
	return l
}

// strange are numbers that few things have.
func strange() []int {
	return []int{math.MinInt, math.MinInt32, -256, -2, -1, 0, 1, 2, 3, 4, 5, 6, 7, 15, 16, 17, 18, 23, 24, 63, 64, 65, 255, 256, 257, 258, 1 << 16, 1<<32 + 1, 1<<32 + 2, math.MaxInt}
}

// world is a field, disks, the power of these, and what is known of what is kept there.
type world struct {
	f    *gf.Field
	fuse *disk.Fuse
	r    *rack.Rack
	m    *meta.Meta
}

func newWorld(t *testing.T) *world {
	t.Helper()
	fuse := disk.NewFuse(0)
	r, e := rack.New(24, 64, fuse)
	if e != api.OK {
		t.Fatal(e)
	}
	return &world{gf.New(), fuse, r, meta.New()}
}

// disk tells the disk of a Loc.
func (w *world) disk(l api.Loc) *disk.Disk {
	return w.r.Bay(l.Disk).Disk()
}

// keep writes chunks, each on a disk of its own.
func (w *world) keep(t *testing.T, chunks [][]byte) []api.Loc {
	t.Helper()
	disks, ok := w.r.Place(len(chunks), -1, nil)
	if !ok {
		t.Fatalf("no place for %d chunks", len(chunks))
	}
	locs, ok := w.r.Take(disks)
	if !ok {
		t.Fatalf("Take(%v) is false", disks)
	}
	for i, l := range locs {
		if e := w.r.Put(l, chunks[i]); e != api.OK {
			t.Fatalf("Put(%v): %v", l, e)
		}
	}
	if e := w.r.Sync(); e != api.OK {
		t.Fatal(e)
	}
	return locs
}

// full tells b with noughts behind it.
func full(b []byte) []byte {
	return append(slices.Clone(b), make([]byte, 64-len(b))...)
}

// cut tells b as four shards.
func cut(b []byte) [][]byte {
	var shards [][]byte
	for shard := range slices.Chunk(full(b), 16) {
		shards = append(shards, shard)
	}
	return shards
}

// parities tells n parities of data whose xs begin with x. They are reckoned by the field alone; noughts behind the data would add nothing.
func (w *world) parities(x, n int, data [][]byte) [][]byte {
	var rows [][]byte
	for j := range n {
		row := make([]byte, len(data[0]))
		for i, shard := range data {
			coef, _ := w.f.Inv(byte(14+j) ^ byte(x+i))
			for at, c := range shard {
				row[at] ^= w.f.Mul(coef, c)
			}
		}
		rows = append(rows, row)
	}
	return rows
}

// layout is a Stripe, the chunks that were written for it, and the blobs that it is of.
type layout struct {
	s      api.Stripe
	chunks [][]byte
	blobs  [][]byte
}

// lay keeps chunks as a Stripe.
func (w *world) lay(t *testing.T, kind, colour int, chunks [][]byte, blobs ...[]byte) layout {
	t.Helper()
	return layout{api.Stripe{Kind: kind, Colour: colour, Keys: [3]string{"a", "b", "c"}, Locs: w.keep(t, chunks)}, chunks, blobs}
}

func copies(b []byte) [][]byte {
	return [][]byte{full(b), full(b), full(b)}
}

func (w *world) six(colour int, b []byte) [][]byte {
	return append(cut(b), w.parities(4*colour, 2, cut(b))...)
}

func (w *world) sixteen(blobs ...[]byte) [][]byte {
	data := slices.Concat(cut(blobs[0]), cut(blobs[1]), cut(blobs[2]))
	return append(data, w.parities(0, 4, data)...)
}

// layouts keeps blobs in each way in which they may be.
func (w *world) layouts(t *testing.T, mix *mixer) []layout {
	t.Helper()
	one := func() []byte { return mix.bytes(1 + mix.below(64)) }
	b := one()
	all := []layout{w.lay(t, api.KMirror, 0, copies(b), b)}
	for colour := range 3 {
		b := one()
		all = append(all, w.lay(t, api.KNarrow, colour, w.six(colour, b), b))
	}
	three := [][]byte{one(), one(), one()}
	return append(all, w.lay(t, api.KWide, 0, w.sixteen(three...), three...))
}

// bears tells how many chunks of a Stripe of that Kind may be lost.
func bears(kind int) int {
	return map[int]int{api.KMirror: 2, api.KNarrow: 2, api.KWide: 4}[kind]
}

// turn turns a bit of each chunk whose bit in mask is 1: it is lost, and turned once more there again.
func (w *world) turn(t *testing.T, s api.Stripe, mask int) {
	t.Helper()
	for i, l := range s.Locs {
		if mask>>i&1 == 1 && !w.disk(l).Rot(l.Slot, 20, 1) {
			t.Fatalf("chunk %d does not rot", i)
		}
	}
}

// masks are those of n bits of which at most so many are 1.
func masks(n, most int) []int {
	var l []int
	for mask := range 1 << n {
		if bits.OnesCount(uint(mask)) <= most {
			l = append(l, mask)
		}
	}
	return l
}

// same tells whether two rows of chunks are the same, nil and empty ones told apart.
func same(a, b [][]byte) bool {
	return slices.EqualFunc(a, b, func(x, y []byte) bool { return bytes.Equal(x, y) && (x == nil) == (y == nil) })
}

// chunksAre tells whether Chunks answers just these.
func chunksAre(t *testing.T, name string, w *world, s api.Stripe, want [][]byte) {
	t.Helper()
	there := 0
	for _, chunk := range want {
		if chunk != nil {
			there++
		}
	}
	if got, n := view.Chunks(w.r, s); n != there || !same(got, want) {
		t.Fatalf("%s: Chunks = %x, %d, want %x, %d", name, got, n, want, there)
	}
}

// allAre tells whether All answers just these.
func allAre(t *testing.T, name string, w *world, s api.Stripe, want [][]byte) {
	t.Helper()
	if got, e := view.All(w.f, w.r, s); e != api.OK || !same(got, want) {
		t.Fatalf("%s: All = %x, %v, want %x, OK", name, got, e, want)
	}
}

// allNot tells whether All answers an error, and nothing beside it.
func allNot(t *testing.T, name string, f *gf.Field, r *rack.Rack, s api.Stripe, want api.Errno) {
	t.Helper()
	if got, e := view.All(f, r, s); e != want || len(got) != 0 {
		t.Fatalf("%s: All of %v = %x, %v, want none, %v", name, s, got, e, want)
	}
}

// shardsAre tells whether Shards answers just these.
func shardsAre(t *testing.T, name string, w *world, s api.Stripe, part int, want [][]byte) {
	t.Helper()
	if got, e := view.Shards(w.f, w.r, s, part); e != api.OK || !same(got, want) {
		t.Fatalf("%s: Shards of part %d = %x, %v, want %x, OK", name, part, got, e, want)
	}
}

// shardsNot tells whether Shards answers an error, and nothing beside it.
func shardsNot(t *testing.T, name string, f *gf.Field, r *rack.Rack, s api.Stripe, part int, want api.Errno) {
	t.Helper()
	if got, e := view.Shards(f, r, s, part); e != want || len(got) != 0 {
		t.Fatalf("%s: Shards of %v, part %d = %x, %v, want none, %v", name, s, part, got, e, want)
	}
}

// blobIs tells whether Blob answers b.
func blobIs(t *testing.T, name string, w *world, key string, b []byte) {
	t.Helper()
	if got, e := view.Blob(w.f, w.m, w.r, key); e != api.OK || !bytes.Equal(got, b) {
		t.Fatalf("%s: Blob(%q) = %x, %v, want %x, OK", name, key, got, e, b)
	}
}

// blobNot tells whether Blob answers an error, and nothing beside it.
func blobNot(t *testing.T, name string, w *world, key string, want api.Errno) {
	t.Helper()
	if got, e := view.Blob(w.f, w.m, w.r, key); e != want || len(got) != 0 {
		t.Fatalf("%s: Blob(%q) = %x, %v, want none, %v", name, key, got, e, want)
	}
}

// smear writes over all of l, its spare room too.
func smear[T any](l []T, by T) {
	all := l[:cap(l)]
	for i := range all {
		all[i] = by
	}
}

// smearRows writes over all rows of l, and over l.
func smearRows(l [][]byte) {
	for _, row := range l {
		smear(row, 99)
	}
	smear(l, []byte{99})
}

// Promise 15.1: Long.

func TestLong(t *testing.T) {
	want := map[int]int{1: 64, 2: 16, 3: 16}
	kinds := strange()
	for kind := -300; kind < 300; kind++ {
		kinds = append(kinds, kind)
	}
	for _, kind := range kinds {
		if got := view.Long(kind); got != want[kind] {
			t.Errorf("Long(%d) = %d, want %d", kind, got, want[kind])
		}
	}
}

// Promise 15.1: Chunks.

func TestChunksInOrder(t *testing.T) {
	var mix mixer
	w := newWorld(t)
	for i, k := range w.layouts(t, &mix) {
		name := fmt.Sprint("layout ", i)
		chunksAre(t, name, w, k.s, k.chunks)
		slices.Reverse(k.s.Locs)
		slices.Reverse(k.chunks)
		chunksAre(t, name+" turned round", w, k.s, k.chunks)
	}
}

// way is what makes of a chunk at l one that is not there.
type way struct {
	name string
	lose func(w *world, l *api.Loc)
}

func ways() []way {
	var l []way
	for _, at := range []int{0, 1, 2, 3, 4, 7, 8, 11, 12, 27, 95} {
		l = append(l, way{fmt.Sprint("byte ", at, " rotted"), func(w *world, l *api.Loc) { w.disk(*l).Rot(l.Slot, at, 1<<(at%8)) }})
	}
	return append(l, []way{
		{"the disk failed", func(w *world, l *api.Loc) { w.disk(*l).Fail() }},
		{"the disk was replaced", func(w *world, l *api.Loc) { w.disk(*l).Replace() }},
		{"torn", tear},
		{"another id's chunk", func(w *world, l *api.Loc) { w.r.Put(api.Loc{Disk: l.Disk, Slot: l.Slot, ID: l.ID + 1}, data(w, *l)) }},
		{"a byte less", func(w *world, l *api.Loc) { b := data(w, *l); w.r.Put(*l, b[:len(b)-1]) }},
		{"a byte more", func(w *world, l *api.Loc) { b := data(w, *l); w.r.Put(*l, make([]byte, (len(b)+1)%65)) }},
		{"as long as of another Kind", func(w *world, l *api.Loc) { b := data(w, *l); w.r.Put(*l, make([]byte, 80-len(b))) }},
		{"no bytes", func(w *world, l *api.Loc) { w.r.Put(*l, nil) }},
		{"no such disk", func(w *world, l *api.Loc) { l.Disk = 24 }},
		{"no disk at all", func(w *world, l *api.Loc) { l.Disk = -1 }},
		{"no such slot", func(w *world, l *api.Loc) { l.Slot = 64 }},
		{"no slot at all", func(w *world, l *api.Loc) { l.Slot = -1 }},
		{"a slot of noughts", func(w *world, l *api.Loc) { l.Slot = 63 }},
		{"the id behind it", func(w *world, l *api.Loc) { l.ID++ }},
		{"an id that wraps round to it", func(w *world, l *api.Loc) { l.ID += 1 << 32 }},
		{"no id", func(w *world, l *api.Loc) { l.ID = 0 }},
		{"an id below none", func(w *world, l *api.Loc) { l.ID = -l.ID }},
	}...)
}

// data tells what a chunk has.
func data(w *world, l api.Loc) []byte {
	b, _ := w.r.Get(l)
	return b
}

// tear leaves the beginning of a write of other bytes under the same id.
func tear(w *world, l *api.Loc) {
	b := data(w, *l)
	for i := range b {
		b[i] ^= 255
	}
	other, _ := frame.Put(l.ID, b)
	w.disk(*l).Write(l.Slot, other)
	w.disk(*l).Crash(0, 10)
}

func TestChunksNotThere(t *testing.T) {
	mix := mixer(1)
	for _, way := range ways() {
		w := newWorld(t)
		for i, k := range w.layouts(t, &mix) {
			for at := range k.s.Locs {
				k.s.Locs = w.keep(t, k.chunks)
				want := slices.Clone(k.chunks)
				want[at] = nil
				way.lose(w, &k.s.Locs[at])
				chunksAre(t, fmt.Sprintf("layout %d, chunk %d: %s", i, at, way.name), w, k.s, want)
				for d := range w.r.Size() {
					w.r.Bay(d).Disk().Replace()
				}
				w.r.Reset(w.r.Next())
			}
		}
	}
}

// Of a Kind that is none a chunk has no bytes: it is there, and not nil, if it has just these.
func TestChunksOfEachLength(t *testing.T) {
	var mix mixer
	w := newWorld(t)
	var s api.Stripe
	var chunks [][]byte
	for n := range 65 {
		chunk := mix.bytes(n)
		s.Locs = append(s.Locs, w.keep(t, [][]byte{chunk})...)
		chunks = append(chunks, chunk)
	}
	long := map[int]int{1: 64, 2: 16, 3: 16}
	for _, kind := range strange() {
		s.Kind = kind
		want := make([][]byte, len(chunks))
		want[long[kind]] = chunks[long[kind]]
		chunksAre(t, fmt.Sprint("Kind ", kind), w, s, want)
	}
}

// Chunks asks of a Stripe its Kind and its Locs, however many.
func TestChunksOfAnyLocs(t *testing.T) {
	var mix mixer
	w := newWorld(t)
	for _, n := range []int{0, 1, 2, 3, 4, 5, 6, 7, 16, 17, 24} {
		chunks := mix.rows(n, 16)
		s := api.Stripe{Kind: api.KNarrow, Colour: -7, Keys: [3]string{"", "x y", ""}, Locs: w.keep(t, chunks)}
		chunksAre(t, fmt.Sprint(n, " Locs"), w, s, chunks)
		s.Locs = append(s.Locs, s.Locs...)
		chunksAre(t, fmt.Sprint(n, " Locs twice"), w, s, append(chunks, chunks...))
	}
	chunksAre(t, "no Stripe", w, api.Stripe{}, nil)
}

// What is pending is there as long as no crash takes it back.
func TestChunksThatArePending(t *testing.T) {
	var mix mixer
	w := newWorld(t)
	k := w.layouts(t, &mix)[1]
	later := mix.bytes(16)
	w.r.Put(k.s.Locs[2], later)
	chunksAre(t, "pending", w, k.s, slices.Concat(k.chunks[:2], [][]byte{later}, k.chunks[3:]))
	w.disk(k.s.Locs[2]).Crash(0, 0)
	chunksAre(t, "crashed", w, k.s, k.chunks)
}

// Promise 15.2: All and Shards, of chunks that agree.

// reads tells whether All and Shards answer what the layout has, the chunks of mask being lost.
func reads(t *testing.T, name string, w *world, k layout, mask int) {
	t.Helper()
	name = fmt.Sprintf("%s, lost %b", name, mask)
	borne := bits.OnesCount(uint(mask)) <= bears(k.s.Kind)
	if borne {
		allAre(t, name, w, k.s, k.chunks)
	} else {
		allNot(t, name, w.f, w.r, k.s, api.ErrUnavailable)
	}
	for part, b := range k.blobs {
		ownThere := k.s.Kind != api.KMirror && mask>>(4*part)&15 == 0
		if borne || ownThere {
			shardsAre(t, name, w, k.s, part, cut(b))
		} else {
			shardsNot(t, name, w.f, w.r, k.s, part, api.ErrUnavailable)
		}
	}
}

func TestEachLoss(t *testing.T) {
	mix := mixer(2)
	w := newWorld(t)
	for i, k := range w.layouts(t, &mix) {
		most := min(len(k.s.Locs), bears(k.s.Kind)+4)
		if k.s.Kind == api.KWide {
			most = 5
		}
		for _, mask := range masks(len(k.s.Locs), most) {
			w.turn(t, k.s, mask)
			reads(t, fmt.Sprint("layout ", i), w, k, mask)
			w.turn(t, k.s, mask)
		}
		reads(t, fmt.Sprint("layout ", i, " again"), w, k, 0)
	}
}

// A part is read by its own four, however many of the others are lost.
func TestAPartByItsOwn(t *testing.T) {
	mix := mixer(3)
	w := newWorld(t)
	wide := w.layouts(t, &mix)[4]
	for part := range 3 {
		for i := range 1 << 6 {
			mask := (mix.below(1<<16) | mix.below(1<<16)) &^ (15 << (4 * part))
			if i == 0 {
				mask = 0xffff &^ (15 << (4 * part))
			}
			w.turn(t, wide.s, mask)
			reads(t, "wide", w, wide, mask)
			w.turn(t, wide.s, mask)
		}
	}
}

// unhex tells bytes that are written down.
func unhex(t *testing.T, rows ...string) [][]byte {
	t.Helper()
	var l [][]byte
	for _, row := range rows {
		b, e := hex.DecodeString(row)
		if e != nil {
			t.Fatal(e)
		}
		l = append(l, b)
	}
	return l
}

// These parities were reckoned without the program.
func TestWrittenDown(t *testing.T) {
	w := newWorld(t)
	blobs := [][]byte{
		[]byte("In the hot room the floor is warm, and what is kept there is "),
		[]byte("kept three times; what has grown cold lies in shards below."),
		[]byte("One who asks is told, or told: not now."),
	}
	for colour, parities := range [][][]byte{
		unhex(t, "c29ce087cb8ecd7de487cd8afe5c6b28", "ac1d5da927f9ffc723a9184e667e616e"),
		unhex(t, "fea5eaacd1083936577df3953faf283d", "e66ee1b958f4167aa31ace01296b2308"),
		unhex(t, "773c83c3ffedde82b4afae7956fcb386", "e70e5c740026a6c93ed589d13b773838"),
	} {
		k := w.lay(t, api.KNarrow, colour, append(cut(blobs[colour]), parities...), blobs[colour])
		for _, mask := range masks(6, 2) {
			w.turn(t, k.s, mask)
			reads(t, "written down", w, k, mask)
			w.turn(t, k.s, mask)
		}
	}
	parities := unhex(t, "4b0589e8e56b2ac907559066970ff093", "ad7de0647f2b4f74be665f9e74627a5e", "faf594ed5321b089047ce79fa2a2775e", "4be437b9ad66fba463d83617ffae4563")
	k := w.lay(t, api.KWide, 0, slices.Concat(cut(blobs[0]), cut(blobs[1]), cut(blobs[2]), parities), blobs...)
	for _, mask := range []int{0, 0xf, 0xf0, 0xf00, 0xf000, 0x1111, 0x8421, 0x3030, 0x0c0c, 0x5005} {
		w.turn(t, k.s, mask)
		reads(t, "written down", w, k, mask)
		w.turn(t, k.s, mask)
	}
}

// Promise 15.2: All and Shards, of chunks that do not agree.

func TestCopiesThatDoNotAgree(t *testing.T) {
	mix := mixer(4)
	w := newWorld(t)
	chunks := mix.rows(3, 64)
	k := w.lay(t, api.KMirror, 0, chunks)
	for mask := range 7 {
		first := bits.TrailingZeros(^uint(mask))
		w.turn(t, k.s, mask)
		allAre(t, "unlike", w, k.s, [][]byte{chunks[first], chunks[first], chunks[first]})
		shardsAre(t, "unlike", w, k.s, 0, cut(chunks[first]))
		w.turn(t, k.s, mask)
	}
}

// fits tells whether all is what Decode is to tell of chunks, those of mask missing, of k data whose xs begin with x: those that are there are as they are; data are such that the first k chunks that are there agree, and the missing parities with them. There is just one such answer.
func (w *world) fits(all, chunks [][]byte, mask, k, x int) bool {
	if len(all) != len(chunks) {
		return false
	}
	parities := w.parities(x, len(chunks)-k, all[:k])
	there := 0
	for i, chunk := range chunks {
		isMissing := mask>>i&1 == 1
		if !isMissing && !bytes.Equal(all[i], chunk) {
			return false
		}
		isSaid := isMissing || there < k
		if i >= k && isSaid && !bytes.Equal(all[i], parities[i-k]) {
			return false
		}
		if !isMissing {
			there++
		}
	}
	return true
}

func TestChunksThatDoNotAgree(t *testing.T) {
	mix := mixer(5)
	w := newWorld(t)
	for i, x := range []struct{ kind, colour, chunks, k, x int }{
		{api.KNarrow, 0, 6, 4, 0}, {api.KNarrow, 1, 6, 4, 4}, {api.KNarrow, 2, 6, 4, 8}, {api.KWide, 0, 16, 12, 0}, {api.KWide, 2, 16, 12, 0},
	} {
		chunks := mix.rows(x.chunks, 16)
		k := w.lay(t, x.kind, x.colour, chunks)
		for _, mask := range masks(x.chunks, bears(x.kind)) {
			w.turn(t, k.s, mask)
			all, e := view.All(w.f, w.r, k.s)
			if e != api.OK || !w.fits(all, chunks, mask, x.k, x.x) {
				t.Fatalf("%d: of %x All without %b = %x, %v", i, chunks, mask, all, e)
			}
			for part := range x.k / 4 {
				shardsAre(t, "unlike", w, k.s, part, all[4*part:4*part+4])
			}
			w.turn(t, k.s, mask)
		}
	}
}

// The Colour of a Stripe that is mirrored or wide changes nothing; that of a narrow one is its code's; Keys change nothing.
func TestColours(t *testing.T) {
	mix := mixer(6)
	w := newWorld(t)
	for i, k := range w.layouts(t, &mix) {
		own := k.s.Colour
		for colour := range 3 {
			k.s.Colour = colour
			k.s.Keys = [3]string{"", strings.Repeat("z", colour), "\xff"}
			w.turn(t, k.s, 1)
			if k.s.Kind != api.KNarrow || colour == own {
				reads(t, fmt.Sprint("layout ", i), w, k, 1)
			} else if all, e := view.All(w.f, w.r, k.s); e != api.OK || bytes.Equal(all[0], k.chunks[0]) || !w.fits(all, k.chunks, 1, 4, 4*colour) {
				t.Errorf("layout %d as of Colour %d: All = %x, %v", i, colour, all, e)
			}
			w.turn(t, k.s, 1)
		}
	}
}

// Promise 15.2: what is refused.

// refuses tells whether All and Shards answer ErrArg, whatever the part, and whether the chunks are there or not.
func refuses(t *testing.T, name string, w *world, f *gf.Field, s api.Stripe) {
	t.Helper()
	empty, _ := rack.New(1, 1, nil)
	for _, r := range []*rack.Rack{w.r, empty} {
		allNot(t, name, f, r, s, api.ErrArg)
		for part := -1; part < 4; part++ {
			shardsNot(t, name, f, r, s, part, api.ErrArg)
		}
	}
}

func TestNoField(t *testing.T) {
	mix := mixer(7)
	w := newWorld(t)
	for _, k := range w.layouts(t, &mix) {
		refuses(t, "no field", w, nil, k.s)
	}
}

func TestKindsThatAreNone(t *testing.T) {
	mix := mixer(8)
	w := newWorld(t)
	locs := w.keep(t, mix.rows(24, 16))
	for _, kind := range strange() {
		if kind >= 1 && kind <= 3 {
			continue
		}
		for n := range 25 {
			refuses(t, "no Kind", w, w.f, api.Stripe{Kind: kind, Locs: locs[:n]})
		}
	}
}

// Spare room behind the Locs does not make them enough.
func TestNumbersOfLocs(t *testing.T) {
	mix := mixer(9)
	w := newWorld(t)
	for _, k := range w.layouts(t, &mix) {
		for n := range 25 {
			s := k.s
			s.Locs = slices.Concat(k.s.Locs, k.s.Locs, k.s.Locs, k.s.Locs, k.s.Locs, k.s.Locs, k.s.Locs, k.s.Locs, k.s.Locs)[:n]
			if n != len(k.s.Locs) {
				refuses(t, fmt.Sprint(n, " Locs"), w, w.f, s)
			} else {
				reads(t, fmt.Sprint(n, " Locs"), w, layout{s, k.chunks, k.blobs}, 0)
			}
		}
		k.s.Locs = nil
		refuses(t, "no Locs", w, w.f, k.s)
	}
}

func TestColoursThatAreNone(t *testing.T) {
	mix := mixer(10)
	w := newWorld(t)
	for _, k := range w.layouts(t, &mix) {
		for _, colour := range append(strange(), -1, 3) {
			if colour >= 0 && colour <= 2 {
				continue
			}
			k.s.Colour = colour
			refuses(t, "no Colour", w, w.f, k.s)
		}
	}
}

// That a part is none is told ahead of what is lost.
func TestPartsThatAreNone(t *testing.T) {
	mix := mixer(11)
	w := newWorld(t)
	for _, k := range w.layouts(t, &mix) {
		for range 2 {
			for _, part := range append(strange(), -3, 8, 9, 10, 11, 12) {
				if part < 0 || part >= len(k.blobs) {
					shardsNot(t, "no part", w.f, w.r, k.s, part, api.ErrArg)
				}
			}
			w.turn(t, k.s, 0xffff)
		}
	}
}

// Promise 15.3: Blob.

// applies does a record; the slots that are used are then those of layouts.
func (w *world) applies(t *testing.T, r api.Rec) {
	t.Helper()
	if e := w.m.Apply(r); e != api.OK {
		t.Fatalf("Apply(%v) = %v", r, e)
	}
	w.r.Reset(w.r.Next())
	for _, l := range w.m.Locs() {
		if !w.r.Hold(l) {
			t.Fatalf("%v is held twice", l)
		}
	}
}

func (w *world) put(t *testing.T, key string, b []byte) {
	t.Helper()
	w.applies(t, api.Rec{Kind: api.RPut, Key: key, N: len(b), Sid: w.m.Next(), Locs: w.keep(t, copies(b))})
}

func (w *world) narrow(t *testing.T, key string, colour int, b []byte) {
	t.Helper()
	w.applies(t, api.Rec{Kind: api.RNarrow, Key: key, Sid: w.m.Next(), Colour: colour, Locs: w.keep(t, w.six(colour, b))})
}

func (w *world) mirror(t *testing.T, key string, b []byte) {
	t.Helper()
	w.applies(t, api.Rec{Kind: api.RMirror, Key: key, Sid: w.m.Next(), Locs: w.keep(t, copies(b))})
}

// merge makes three Stripes a wide one, by the bytes that they are of.
func (w *world) merge(t *testing.T, sids []int, blobs ...[]byte) {
	t.Helper()
	w.applies(t, api.Rec{Kind: api.RMerge, Sid: w.m.Next(), Sids: sids, Locs: w.keep(t, w.sixteen(blobs...)[12:])})
}

// split makes narrow Stripes of a wide one, by the bytes that it is of; those of a dead part count for nothing.
func (w *world) split(t *testing.T, sid int, blobs ...[]byte) {
	t.Helper()
	s, _ := w.m.Stripe(sid)
	next, sids := w.m.Next(), []int{0, 0, 0}
	var locs []api.Loc
	for part, key := range s.Keys {
		if key != "" {
			sids[part] = next
			next++
			locs = append(locs, w.keep(t, w.six(part, blobs[part])[4:])...)
		}
	}
	w.applies(t, api.Rec{Kind: api.RSplit, Sid: sid, Sids: sids, Locs: locs})
}

// home tells the Stripe of key's blob.
func (w *world) home(key string) (int, api.Stripe) {
	b, _ := w.m.Blob(key)
	s, _ := w.m.Stripe(b.Sid)
	return b.Sid, s
}

func TestExample(t *testing.T) {
	w := newWorld(t)
	b := []byte("told by the third")
	w.put(t, "k", b)
	_, s := w.home("k")
	w.turn(t, s, 3)
	blobIs(t, "two copies lost", w, "k", b)
	w.turn(t, s, 4)
	blobNot(t, "three copies lost", w, "k", api.ErrUnavailable)
}

// Of each length, and in each layout.
func TestBlobs(t *testing.T) {
	mix := mixer(12)
	for n := range 65 {
		w := newWorld(t)
		keys := []string{"a", "b", "c"}
		blobs := [][]byte{mix.bytes(n), mix.bytes(64 - n), mix.bytes(n / 2)}
		tells := func(name string) {
			t.Helper()
			for i, key := range keys {
				blobIs(t, name, w, key, blobs[i])
			}
		}
		for i, key := range keys {
			w.put(t, key, blobs[i])
		}
		tells("mirrored")
		for i, key := range keys {
			w.narrow(t, key, i, blobs[i])
		}
		tells("narrow")
		w.merge(t, []int{4, 5, 6}, blobs...)
		tells("wide")
		_, s := w.home("a")
		w.turn(t, s, 0x1248)
		tells("wide, four lost")
		w.turn(t, s, 0x1248)
		w.split(t, 7, blobs...)
		tells("split off")
		for i, key := range keys {
			w.mirror(t, key, blobs[i])
		}
		tells("mirrored again")
	}
}

// Each part of a wide Stripe is told as long as it lives, whichever other one is dead: the dead one's data are yet there.
func TestBlobsBesideDeadOnes(t *testing.T) {
	mix := mixer(13)
	for dead := range 7 {
		w := newWorld(t)
		blobs := mix.rows(3, 60)
		keys := []string{"x", "y", "z"}
		for i, key := range keys {
			w.put(t, key, blobs[i])
			w.narrow(t, key, i, blobs[i])
		}
		w.merge(t, []int{2, 4, 6}, blobs...)
		for i, key := range keys {
			if dead>>i&1 == 1 {
				w.applies(t, api.Rec{Kind: api.RDel, Key: key})
			}
		}
		s, _ := w.m.Stripe(7)
		for _, mask := range []int{0, 0xf, 0xf0, 0xf00, 0xf000, 0x2481} {
			w.turn(t, s, mask)
			for i, key := range keys {
				if dead>>i&1 == 1 {
					blobNot(t, "dead", w, key, api.ErrKey)
				} else {
					blobIs(t, "alive", w, key, blobs[i])
				}
			}
			w.turn(t, s, mask)
		}
		w.split(t, 7, blobs...)
		for i, key := range keys {
			if dead>>i&1 == 0 {
				blobIs(t, "split off", w, key, blobs[i])
			}
		}
	}
}

// No blob of that key is told ahead of all else.
func TestNoSuchKey(t *testing.T) {
	mix := mixer(14)
	w := newWorld(t)
	w.put(t, "gone", mix.bytes(9))
	w.applies(t, api.Rec{Kind: api.RDel, Key: "gone"})
	for range 2 {
		for _, key := range []string{"", "gone", "a", "A", "k ", "kk", "k\x00", "\xff", strings.Repeat("k", 17), strings.Repeat("k", 1<<16)} {
			blobNot(t, "no key", w, key, api.ErrKey)
			blobNot(t, "no key, and no field", &world{nil, nil, w.r, w.m}, key, api.ErrKey)
		}
		w.put(t, "k", mix.bytes(5))
	}
}

// Without a field Blob answers what Shards does, of a key that there is.
func TestBlobOfNoField(t *testing.T) {
	w := newWorld(t)
	w.put(t, "k", []byte("there"))
	blobNot(t, "no field", &world{nil, nil, w.r, w.m}, "k", api.ErrArg)
}

// Of what is kept just the first N bytes are the blob.
func TestBlobIsOfItsLength(t *testing.T) {
	mix := mixer(15)
	for n := range 65 {
		w := newWorld(t)
		chunk := mix.bytes(64)
		w.applies(t, api.Rec{Kind: api.RPut, Key: "k", N: n, Sid: 1, Locs: w.keep(t, [][]byte{chunk, chunk, chunk})})
		blobIs(t, "no noughts behind it", w, "k", chunk[:n])
	}
}

// A chunk is read where a record moved it.
func TestBlobThatWasMoved(t *testing.T) {
	mix := mixer(16)
	w := newWorld(t)
	b := mix.bytes(50)
	w.put(t, "k", b)
	w.narrow(t, "k", 1, b)
	for i := range 6 {
		sid, s := w.home("k")
		w.turn(t, s, 1<<i|1<<((i+1)%6))
		blobIs(t, "two lost", w, "k", b)
		w.turn(t, s, 1<<((i+1)%6))
		w.applies(t, api.Rec{Kind: api.RMove, Sid: sid, N: i, Locs: w.keep(t, w.six(1, b)[i:i+1])})
		_, moved := w.home("k")
		chunksAre(t, "moved", w, moved, w.six(1, b))
	}
	blobIs(t, "all moved", w, "k", b)
}

// Promise 15.4 (W1, W3): what is not lost beyond what a layout bears is told.

// However chunks are lost, each in a way of its own.
func TestEachWayToLose(t *testing.T) {
	mix := mixer(17)
	for round := range 400 {
		w := newWorld(t)
		all := w.layouts(t, &mix)
		k := all[round%len(all)]
		lost := mix.below(bears(k.s.Kind) + 2)
		mask := 0
		for bits.OnesCount(uint(mask)) < lost {
			mask |= 1 << mix.below(len(k.s.Locs))
		}
		name := fmt.Sprint("layout ", round%len(all))
		for i := range k.s.Locs {
			if mask>>i&1 == 1 {
				way := ways()[mix.below(len(ways()))]
				way.lose(w, &k.s.Locs[i])
				name += ", " + way.name
			}
		}
		reads(t, name, w, k, mask)
	}
}

// script is a world that goes on at random, the bytes of its blobs, and which chunks are lost.
type script struct {
	*world
	mixer
	blobs map[string][]byte
	lost  map[int]bool // by ids
}

func newScript(t *testing.T, seed int) *script {
	return &script{newWorld(t), mixer(seed), map[string][]byte{}, map[int]bool{}}
}

// readable tells whether key's blob has lost no more than its layout bears.
func (x *script) readable(key string) bool {
	_, s := x.home(key)
	n := 0
	for _, l := range s.Locs {
		if x.lost[l.ID] {
			n++
		}
	}
	return n <= bears(s.Kind)
}

// lose loses chunks that there are.
func (x *script) lose() {
	locs := x.m.Locs()
	if len(locs) == 0 {
		return
	}
	l := locs[x.below(len(locs))]
	if x.below(6) > 0 {
		if !x.lost[l.ID] {
			x.disk(l).Rot(l.Slot, 12+x.below(16), byte(1+x.below(255)))
			x.lost[l.ID] = true
		}
		return
	}
	x.disk(l).Fail()
	x.disk(l).Replace()
	for _, other := range locs {
		if other.Disk == l.Disk {
			x.lost[other.ID] = true
		}
	}
}

// step does what may be done of what it happens on.
func (x *script) step(t *testing.T) {
	t.Helper()
	key := string(rune('a' + x.below(12)))
	b, known := x.blobs[key]
	sid, s := x.home(key)
	switch x.below(10) {
	case 0, 1, 2:
		x.blobs[key] = x.bytes(x.below(65))
		x.put(t, key, x.blobs[key])
	case 3, 4, 5:
		if s.Kind == api.KMirror {
			x.world.narrow(t, key, x.below(3), b)
		}
	case 6:
		if s.Kind == api.KNarrow && x.below(3) == 0 {
			x.world.mirror(t, key, b)
		}
	case 7:
		x.mergeSome(t)
	case 8:
		if s.Kind == api.KWide && x.below(2) == 0 {
			x.world.split(t, sid, x.blobs[s.Keys[0]], x.blobs[s.Keys[1]], x.blobs[s.Keys[2]])
		}
	case 9:
		if known && x.below(3) == 0 {
			delete(x.blobs, key)
			x.applies(t, api.Rec{Kind: api.RDel, Key: key})
		}
	}
}

// mergeSome merges the last narrow Stripes of each Colour, if there are such.
func (x *script) mergeSome(t *testing.T) {
	t.Helper()
	sids, blobs := make([]int, 3), make([][]byte, 3)
	for key, b := range x.blobs {
		if sid, s := x.home(key); s.Kind == api.KNarrow && sid > sids[s.Colour] {
			sids[s.Colour], blobs[s.Colour] = sid, b
		}
	}
	if !slices.Contains(sids, 0) {
		x.merge(t, sids, blobs...)
	}
}

// Beyond what is borne a blob is told rightly, or not at all.
func TestScripts(t *testing.T) {
	told, untold, kinds := 0, 0, map[int]int{}
	for seed := range 30 {
		x := newScript(t, seed)
		for range 300 {
			x.step(t)
			if x.below(4) == 0 {
				x.lose()
			}
			for i := range 12 {
				key := string(rune('a' + i))
				got, e := view.Blob(x.f, x.m, x.r, key)
				b, known := x.blobs[key]
				switch {
				case !known && (e != api.ErrKey || len(got) != 0):
					t.Fatalf("Blob(%q) = %x, %v, and there is none", key, got, e)
				case known && x.readable(key) && (e != api.OK || !bytes.Equal(got, b)):
					t.Fatalf("Blob(%q) = %x, %v, want %x", key, got, e, b)
				case known && e != api.ErrUnavailable && (e != api.OK || !bytes.Equal(got, b)):
					t.Fatalf("Blob(%q) = %x, %v, want %x or ErrUnavailable", key, got, e, b)
				}
				_, s := x.home(key)
				kinds[s.Kind]++
				if known && e == api.OK {
					told++
				} else if known {
					untold++
				}
			}
		}
	}
	if told < 1000 || untold < 1000 || kinds[api.KMirror] < 1000 || kinds[api.KNarrow] < 1000 || kinds[api.KWide] < 1000 {
		t.Errorf("told %d, not told %d, of Kinds %v", told, untold, kinds)
	}
}

// Rules: what is handed in stays, what is answered is new memory, and reading changes nothing.

// answers are all that the calls tell of a Stripe, each in a row of rows.
func (w *world) answers(s api.Stripe) [][][]byte {
	var l [][][]byte
	chunks, _ := view.Chunks(w.r, s)
	all, _ := view.All(w.f, w.r, s)
	l = append(l, chunks, all)
	for part := range 3 {
		shards, _ := view.Shards(w.f, w.r, s, part)
		l = append(l, shards)
	}
	return l
}

func TestAnswersAreNewMemory(t *testing.T) {
	mix := mixer(18)
	w := newWorld(t)
	for i, k := range w.layouts(t, &mix) {
		for _, mask := range []int{0, 1, 2, 3} {
			w.turn(t, k.s, mask)
			was := w.answers(k.s)
			for _, answer := range w.answers(k.s) {
				smearRows(answer)
			}
			if is := w.answers(k.s); !slices.EqualFunc(is, was, same) {
				t.Errorf("layout %d without %b: the answers were %x, are %x", i, mask, was, is)
			}
			w.turn(t, k.s, mask)
		}
	}
}

// What is written to one row of an answer, or behind it, is not written to another one.
func TestRowsAreApart(t *testing.T) {
	mix := mixer(19)
	w := newWorld(t)
	for i, k := range w.layouts(t, &mix) {
		for _, mask := range []int{0, 1, 2, 3} {
			w.turn(t, k.s, mask)
			for n, want := range w.answers(k.s) {
				for row := range want {
					got := w.answers(k.s)[n]
					smear(got[row], 99)
					got[row] = want[row]
					if !same(got, want) {
						t.Errorf("layout %d without %b, answer %d: row %d shares memory", i, mask, n, row)
					}
				}
			}
			w.turn(t, k.s, mask)
		}
	}
}

func TestBlobsAreNewMemory(t *testing.T) {
	w := newWorld(t)
	b := []byte("told once, told again")
	w.put(t, "k", b)
	for range 3 {
		got, _ := view.Blob(w.f, w.m, w.r, "k")
		blobIs(t, "beside another", w, "k", b)
		smear(got, 99)
		blobIs(t, "behind another", w, "k", b)
	}
}

func TestHandedInStays(t *testing.T) {
	mix := mixer(20)
	w := newWorld(t)
	for _, k := range w.layouts(t, &mix) {
		room := slices.Concat(k.s.Locs, make([]api.Loc, 20))
		was := slices.Clone(room)
		k.s.Locs = room[:len(k.s.Locs)]
		for _, mask := range []int{0, 3, 0xffff} {
			w.turn(t, k.s, mask)
			for _, answer := range w.answers(k.s) {
				smearRows(answer)
			}
			w.turn(t, k.s, mask)
		}
		if !slices.Equal(room, was) {
			t.Errorf("Locs are %v, were %v", room, was)
		}
	}
}

// state tells all that a later call could tell of a world.
func (w *world) state() string {
	var s strings.Builder
	for d := range w.r.Size() {
		b := w.r.Bay(d)
		fmt.Fprint(&s, b.Used(), b.Disk().Pending(), b.Disk().Live())
		for slot := range b.Disk().Slots() {
			held, e := b.Disk().Read(slot)
			s.WriteString(string(held) + e.Error())
		}
	}
	fmt.Fprint(&s, w.r.Next(), w.fuse.Dead(), w.m.Keys(), w.m.Sids(), w.m.Locs(), w.m.Next(), w.m.Table())
	return s.String()
}

// Reading needs no power, and leaves all as it is, whether it tells or not.
func TestReadingChangesNothing(t *testing.T) {
	mix := mixer(21)
	w := newWorld(t)
	w.put(t, "k", []byte("kept"))
	all := w.layouts(t, &mix)
	w.fuse.Set(1)
	w.r.Put(all[0].s.Locs[0], all[0].chunks[0])
	if !w.fuse.Dead() {
		t.Fatal("there is power yet")
	}
	for _, k := range all {
		for _, mask := range []int{0, 3, 0xffff} {
			w.turn(t, k.s, mask)
			was := w.state()
			reads(t, "no power", w, k, mask&(1<<len(k.s.Locs)-1))
			blobIs(t, "no power", w, "k", []byte("kept"))
			blobNot(t, "no power", w, "l", api.ErrKey)
			if w.state() != was {
				t.Fatalf("reading %v without %b has changed something", k.s, mask)
			}
			w.turn(t, k.s, mask)
		}
	}
}

// Promise 15.5: no call panics, and each ends.

func TestNoCallPanics(t *testing.T) {
	x := mixer(22)
	w := newWorld(t)
	w.put(t, "k", []byte("kept"))
	all := w.layouts(t, &x)
	one := func() int { return strange()[x.below(len(strange()))] }
	outcomes := map[api.Errno]int{}
	for range 30000 {
		s := all[x.below(len(all))].s
		s.Locs = slices.Clone(s.Locs)
		if x.below(3) == 0 {
			s.Kind = one()
		}
		if x.below(3) == 0 {
			s.Colour = one()
		}
		for range x.below(12) {
			s.Locs[x.below(len(s.Locs))] = api.Loc{Disk: one(), Slot: one(), ID: one()}
		}
		if x.below(3) == 0 {
			s.Locs = slices.Concat(s.Locs, s.Locs, s.Locs)[:x.below(2*len(s.Locs))]
		}
		part := x.below(3)
		if x.below(3) == 0 {
			part = one()
		}
		f := w.f
		if x.below(9) == 0 {
			f = nil
		}
		chunks, n := view.Chunks(w.r, s)
		told, e := view.All(f, w.r, s)
		shards, g := view.Shards(f, w.r, s, part)
		if len(chunks) != len(s.Locs) || n > len(chunks) || e == api.OK && len(told) != len(s.Locs) || g == api.OK && len(shards) != 4 {
			t.Fatalf("of %v, part %d: %d and %d chunks, %d told, %v, %d shards, %v", s, part, len(chunks), n, len(told), e, len(shards), g)
		}
		outcomes[e]++
		outcomes[g]++
		view.Blob(f, w.m, w.r, []string{"", "k", "\xff", strings.Repeat("k", x.below(300))}[x.below(4)])
	}
	for _, e := range []api.Errno{api.OK, api.ErrArg, api.ErrUnavailable} {
		if outcomes[e] < 100 {
			t.Errorf("%v was told %d times", e, outcomes[e])
		}
		delete(outcomes, e)
	}
	if len(outcomes) != 0 {
		t.Errorf("told were %v, too", outcomes)
	}
}

// Many Locs are as few.
func TestManyLocs(t *testing.T) {
	var mix mixer
	w := newWorld(t)
	b := mix.bytes(16)
	l := w.keep(t, [][]byte{b})[0]
	s := api.Stripe{Kind: api.KWide}
	for i := range 100000 {
		s.Locs = append(s.Locs, api.Loc{Disk: l.Disk, Slot: l.Slot, ID: l.ID + i%2})
	}
	chunks, n := view.Chunks(w.r, s)
	if n != 50000 || len(chunks) != 100000 || !bytes.Equal(chunks[99998], b) || chunks[99999] != nil {
		t.Errorf("Chunks of a hundred thousand are %d, %d of them there", len(chunks), n)
	}
	allNot(t, "a hundred thousand", w.f, w.r, s, api.ErrArg)
}
