package meta_test

import (
	"fmt"
	"math"
	"slices"
	"strings"
	"testing"

	"hypocaust/api"
	"hypocaust/meta"
	"hypocaust/rec"
)

const greatest = 1<<31 - 1 // Sid and id

// mixer tells numbers that look mixed, the same ones each time.
type mixer uint64

func (m *mixer) below(n int) int {
	*m = *m*6364136223846793005 + 1442695040888963407
	return int(uint64(*m) >> 33 % uint64(n))
}

// locs tells n Locs on disks 0 and on, of ids from id on.
func locs(id, n int) []api.Loc {
	var l []api.Loc
	for i := range n {
		l = append(l, api.Loc{Disk: i, Slot: id % 64, ID: id + i})
	}
	return l
}

func put(key string, n, sid, id int) api.Rec {
	return api.Rec{Kind: api.RPut, Key: key, N: n, Sid: sid, Locs: locs(id, 3)}
}

func del(key string) api.Rec {
	return api.Rec{Kind: api.RDel, Key: key}
}

func narrow(key string, sid, colour, id int) api.Rec {
	return api.Rec{Kind: api.RNarrow, Key: key, Sid: sid, Colour: colour, Locs: locs(id, 6)}
}

func mirror(key string, sid, id int) api.Rec {
	return api.Rec{Kind: api.RMirror, Key: key, Sid: sid, Locs: locs(id, 3)}
}

func merge(sid, id int, sids ...int) api.Rec {
	return api.Rec{Kind: api.RMerge, Sid: sid, Sids: sids, Locs: locs(id, 4)}
}

// split tells a record with two Locs for each of sids that is not 0.
func split(sid, id int, sids ...int) api.Rec {
	n := 0
	for _, s := range sids {
		if s != 0 {
			n += 2
		}
	}
	return api.Rec{Kind: api.RSplit, Sid: sid, Sids: sids, Locs: locs(id, n)}
}

func move(sid, n, id int) api.Rec {
	return api.Rec{Kind: api.RMove, Sid: sid, N: n, Locs: []api.Loc{{Disk: 23, Slot: 63, ID: id}}}
}

func table(hot, warm, gap, add, top, half int) api.Rec {
	return api.Rec{Kind: api.RTable, Table: api.Table{Hot: hot, Warm: warm, Gap: gap, Add: add, Top: top, Half: half}}
}

// of makes a Meta of records that are all OK.
func of(t *testing.T, recs ...api.Rec) *meta.Meta {
	t.Helper()
	m := meta.New()
	applies(t, m, recs...)
	return m
}

// applies Applies records that are all OK.
func applies(t *testing.T, m *meta.Meta, recs ...api.Rec) {
	t.Helper()
	for i, r := range recs {
		if e := m.Apply(r); e != api.OK {
			t.Fatalf("record %d: Apply(%v) = %v", i, r, e)
		}
	}
}

// refuses tells whether Apply answers want, and has changed nothing.
func refuses(t *testing.T, m *meta.Meta, r api.Rec, want api.Errno) {
	t.Helper()
	was := told(m)
	if e := m.Apply(r); e != want {
		t.Errorf("Apply(%v) = %v, want %v", r, e, want)
	}
	if is := told(m); is != was {
		t.Errorf("Apply(%v) has made\n%s of\n%s", r, is, was)
	}
}

// told tells all that a Meta tells.
func told(m *meta.Meta) string {
	var s strings.Builder
	for _, key := range m.Keys() {
		b, ok := m.Blob(key)
		fmt.Fprintf(&s, "%q %v %v\n", key, b, ok)
	}
	for _, sid := range m.Sids() {
		x, ok := m.Stripe(sid)
		fmt.Fprintf(&s, "%d %d %d %q %v %v\n", sid, x.Kind, x.Colour, x.Keys, x.Locs, ok)
	}
	fmt.Fprintf(&s, "%v %d %v\n", m.Locs(), m.Next(), m.Table())
	return s.String()
}

// blobIs tells whether just that is known of key's blob.
func blobIs(t *testing.T, m *meta.Meta, key string, n, sid, part int) {
	t.Helper()
	if b, ok := m.Blob(key); !ok || b != (api.Blob{N: n, Sid: sid, Part: part}) {
		t.Errorf("Blob(%q) = %v, %v, want {%d %d %d}, true", key, b, ok, n, sid, part)
	}
}

// blobIsNot tells whether there is no blob of that key.
func blobIsNot(t *testing.T, m *meta.Meta, key string) {
	t.Helper()
	if b, ok := m.Blob(key); ok || b != (api.Blob{}) {
		t.Errorf("Blob(%q) = %v, %v, want none", key, b, ok)
	}
}

// stripeIs tells whether just that is known of a Stripe.
func stripeIs(t *testing.T, m *meta.Meta, sid, kind, colour int, keys [3]string, locs []api.Loc) {
	t.Helper()
	s, ok := m.Stripe(sid)
	if !ok || s.Kind != kind || s.Colour != colour || s.Keys != keys || !slices.Equal(s.Locs, locs) {
		t.Errorf("Stripe(%d) = %v, %v, want {%d %d %q %v}, true", sid, s, ok, kind, colour, keys, locs)
	}
}

// stripeIsNot tells whether there is no such Stripe.
func stripeIsNot(t *testing.T, m *meta.Meta, sid int) {
	t.Helper()
	if s, ok := m.Stripe(sid); ok || s.Kind != 0 || s.Colour != 0 || s.Keys != [3]string{} || len(s.Locs) != 0 {
		t.Errorf("Stripe(%d) = %v, %v, want none", sid, s, ok)
	}
}

// knows tells whether there are just these keys and Sids.
func knows(t *testing.T, m *meta.Meta, keys []string, sids ...int) {
	t.Helper()
	if got := m.Keys(); !slices.Equal(got, keys) {
		t.Errorf("Keys = %q, want %q", got, keys)
	}
	if got := m.Sids(); !slices.Equal(got, sids) {
		t.Errorf("Sids = %v, want %v", got, sids)
	}
}

// join lays rows of Locs one behind the other, in memory of their own.
func join(rows ...[]api.Loc) []api.Loc {
	return slices.Concat(rows...)
}

// narrows are the records of a, b and c, of 1, 2 and 3 bytes, in narrow Stripes 2, 4 and 6 of Colours 0, 1 and 2, of ids from 110, 120 and 130 on.
func narrows() []api.Rec {
	return []api.Rec{
		put("a", 1, 1, 10), narrow("a", 2, 0, 110),
		put("b", 2, 3, 20), narrow("b", 4, 1, 120),
		put("c", 3, 5, 30), narrow("c", 6, 2, 130),
	}
}

// wide are narrows, merged to Stripe 7 with ids from 140 on.
func wide() []api.Rec {
	return append(narrows(), merge(7, 140, 2, 4, 6))
}

// wideLocs are those of that Stripe.
func wideLocs() []api.Loc {
	return join(locs(110, 4), locs(120, 4), locs(130, 4), locs(140, 4))
}

// Promise 14.1: what is told.

func TestNew(t *testing.T) {
	m := meta.New()
	knows(t, m, nil)
	blobIsNot(t, m, "")
	blobIsNot(t, m, "a")
	stripeIsNot(t, m, 0)
	stripeIsNot(t, m, 1)
	if m.Next() != 1 || m.Table() != (api.Table{}) || len(m.Locs()) != 0 {
		t.Errorf("Next = %d, Table = %v, Locs = %v", m.Next(), m.Table(), m.Locs())
	}
}

func TestExample(t *testing.T) {
	knows(t, of(t, put("b", 0, 1, 1), put("a", 0, 2, 4)), []string{"a", "b"}, 1, 2)
}

func TestOfEachKind(t *testing.T) {
	m := of(t, wide()...)
	applies(t, m, put("d", 64, 8, 40), put("e", 0, 9, 50), narrow("e", 10, 2, 150))
	knows(t, m, []string{"a", "b", "c", "d", "e"}, 7, 8, 10)
	stripeIs(t, m, 7, 3, 0, [3]string{"a", "b", "c"}, wideLocs())
	stripeIs(t, m, 8, 1, 0, [3]string{"d"}, locs(40, 3))
	stripeIs(t, m, 10, 2, 2, [3]string{"e"}, locs(150, 6))
	blobIs(t, m, "a", 1, 7, 0)
	blobIs(t, m, "b", 2, 7, 1)
	blobIs(t, m, "c", 3, 7, 2)
	blobIs(t, m, "d", 64, 8, 0)
	blobIs(t, m, "e", 0, 10, 0)
	if got, want := m.Locs(), join(wideLocs(), locs(40, 3), locs(150, 6)); !slices.Equal(got, want) {
		t.Errorf("Locs = %v, want %v", got, want)
	}
}

func TestKeysByBytes(t *testing.T) {
	keys := []string{"b", "~", "a", "!", "aa", "B", "10", "9", "a!", "A~", "~~~~~~~~~~~~~~~~", "ab", "a~", "Z", "`", "0"}
	m := meta.New()
	for i, key := range keys {
		applies(t, m, put(key, i, i+1, 1))
	}
	want := []string{"!", "0", "10", "9", "A~", "B", "Z", "`", "a", "a!", "aa", "ab", "a~", "b", "~", "~~~~~~~~~~~~~~~~"}
	if got := m.Keys(); !slices.Equal(got, want) {
		t.Errorf("Keys = %q, want %q", got, want)
	}
	for i, key := range keys {
		blobIs(t, m, key, i, i+1, 0)
	}
}

// Sids are put in order as numbers, and Locs with them, whichever key a Stripe has.
func TestSidsRise(t *testing.T) {
	m := meta.New()
	sids := []int{2, 9, 10, 11, 99, 100, 101, 1 << 16, 1<<16 + 1, 1 << 24, greatest - 1, greatest}
	var want []api.Loc
	for i, sid := range sids {
		applies(t, m, put(fmt.Sprint(100-i), 1, sid, 100*i+1))
		want = append(want, locs(100*i+1, 3)...)
	}
	for range 8 {
		if got := m.Sids(); !slices.Equal(got, sids) {
			t.Fatalf("Sids = %v, want %v", got, sids)
		}
		if got := m.Locs(); !slices.Equal(got, want) {
			t.Fatalf("Locs = %v, want %v", got, want)
		}
	}
}

func TestNextIsAboveAll(t *testing.T) {
	m := meta.New()
	next := func(want int, recs ...api.Rec) {
		t.Helper()
		applies(t, m, recs...)
		if got := m.Next(); got != want {
			t.Errorf("Next = %d, want %d", got, want)
		}
	}
	next(1, table(1, 2, 3, 4, 5, 6))
	next(2, put("a", 1, 1, 1))
	next(6, put("b", 1, 5, 1))
	next(6, del("b"))
	next(6, del("a"))
	next(9, put("a", 1, 8, 1))
	next(21, narrow("a", 20, 0, 1))
	next(31, mirror("a", 30, 1))
	next(32, narrow("a", 31, 0, 1))
	next(34, put("b", 1, 32, 1), narrow("b", 33, 1, 1))
	next(36, put("c", 1, 34, 1), narrow("c", 35, 2, 1))
	next(36, move(31, 5, 9))
	next(51, merge(50, 1, 31, 33, 35))
	next(51, move(50, 15, 9))
	next(51, del("c"))
	next(71, split(50, 1, 60, 70, 0))
	next(71, del("a"), del("b"))
	next(greatest+1, put("a", 1, greatest, 1))
	next(greatest+1, del("a"))
}

// Behind the greatest Sid there is none.
func TestNextBehindTheGreatest(t *testing.T) {
	m := of(t, append(wide(), put("d", 1, 8, 1), narrow("d", 9, 0, 1), put("e", 1, greatest, 1))...)
	refuses(t, m, put("f", 1, greatest, 1), api.ErrSid)
	refuses(t, m, put("f", 1, greatest+1, 1), api.ErrArg)
	refuses(t, m, put("f", 1, math.MinInt32, 1), api.ErrArg)
	refuses(t, m, narrow("e", greatest, 0, 1), api.ErrSid)
	refuses(t, m, mirror("d", greatest, 1), api.ErrSid)
	refuses(t, m, split(7, 1, greatest-2, greatest-1, greatest), api.ErrSid)
	applies(t, m, move(greatest, 2, 5), del("e"), del("a"))
	refuses(t, m, put("f", 1, greatest, 1), api.ErrSid)
}

func TestTableIsTheLastOne(t *testing.T) {
	m := meta.New()
	for _, r := range []api.Rec{table(1, 2, 3, 4, 5, 6), table(0, 0, 0, 0, 0, 1), table(1000000, 1000000, 1000000, 1000000, 1000000, 1000000), table(6, 5, 4, 3, 2, 1), table(0, 0, 0, 0, 0, 0)} {
		applies(t, m, r)
		for range 2 {
			if got := m.Table(); got != r.Table {
				t.Errorf("Table = %v, want %v", got, r.Table)
			}
			applies(t, m, put("a", 1, m.Next(), 1))
		}
		refuses(t, m, table(1, 1, 1, 1, 1, 1000001), api.ErrArg)
		refuses(t, m, table(-1, 1, 1, 1, 1, 1), api.ErrArg)
	}
	knows(t, m, []string{"a"}, 10)
}

func TestOfNone(t *testing.T) {
	m := of(t, wide()...)
	applies(t, m, del("b"))
	for _, key := range []string{"", "b", "A", "aa", "a\x00", "d", "\xff", " ", strings.Repeat("a", 17), strings.Repeat("a", 1<<16)} {
		blobIsNot(t, m, key)
	}
	for _, sid := range []int{math.MinInt, -7, -1, 0, 1, 2, 3, 4, 5, 6, 8, 9, greatest, greatest + 1, 1<<32 + 7, math.MaxInt} {
		stripeIsNot(t, m, sid)
	}
}

// What is answered is new memory, its spare room too.
func TestAnswersAreNewMemory(t *testing.T) {
	m := of(t, append(wide(), put("d", 4, 8, 40), put("e", 5, 9, 50), narrow("e", 10, 1, 150))...)
	was := told(m)
	for range 2 {
		for _, sid := range m.Sids() {
			s, _ := m.Stripe(sid)
			smear(s.Locs, api.Loc{Disk: 99, Slot: 99, ID: 99})
			s.Keys[0] = "z"
		}
		smear(m.Keys(), "z")
		smear(m.Sids(), 99)
		smear(m.Locs(), api.Loc{Disk: 99, Slot: 99, ID: 99})
		if is := told(m); is != was {
			t.Fatalf("was\n%s, is\n%s", was, is)
		}
	}
}

// smear writes over all of l, its spare room too.
func smear[T any](l []T, by T) {
	all := l[:cap(l)]
	for i := range all {
		all[i] = by
	}
}

// Lists that were told share none with each other.
func TestAnswersAreApart(t *testing.T) {
	m := of(t, wide()...)
	one, _ := m.Stripe(7)
	other, _ := m.Stripe(7)
	all, allAgain := m.Locs(), m.Locs()
	keys, sids := m.Keys(), m.Sids()
	smear(one.Locs, api.Loc{})
	smear(all, api.Loc{})
	applies(t, m, move(7, 3, 999), del("a"))
	if !slices.Equal(other.Locs, wideLocs()) || !slices.Equal(allAgain, wideLocs()) {
		t.Error("what was told is another")
	}
	if !slices.Equal(keys, []string{"a", "b", "c"}) || !slices.Equal(sids, []int{7}) || other.Keys != [3]string{"a", "b", "c"} {
		t.Error("what was told is another")
	}
}

// everyKind are records of each Kind, in an order in which all are OK.
func everyKind() []api.Rec {
	return append(wide(), put("d", 4, 8, 40), move(8, 1, 99), move(7, 0, 98), table(6, 5, 4, 3, 2, 1),
		del("b"), split(7, 160, 9, 0, 10), move(9, 4, 97), mirror("a", 11, 170), put("a", 7, 12, 180), del("d"))
}

func TestNothingIsKept(t *testing.T) {
	want := told(of(t, everyKind()...))
	m := meta.New()
	for _, r := range everyKind() {
		r.Locs = append(r.Locs, api.Loc{ID: 5}, api.Loc{ID: 6})[:len(r.Locs)]
		r.Sids = append(r.Sids, 5, 6)[:len(r.Sids)]
		applies(t, m, r)
		smear(r.Locs, api.Loc{Disk: 99, Slot: 99, ID: 99})
		smear(r.Sids, 99)
	}
	if is := told(m); is != want {
		t.Errorf("is\n%s, want\n%s", is, want)
	}
}

// What is handed in stays, also behind all that comes later.
func TestHandedInStays(t *testing.T) {
	var held, want []api.Rec
	m := meta.New()
	for _, r := range everyKind() {
		r.Locs = append(r.Locs, api.Loc{ID: 5}, api.Loc{ID: 6})
		r.Sids = append(r.Sids, 5, 6)
		full := r
		full.Locs, full.Sids = slices.Clone(r.Locs), slices.Clone(r.Sids)
		held, want = append(held, r), append(want, full)
		r.Locs, r.Sids = r.Locs[:len(r.Locs)-2], r.Sids[:len(r.Sids)-2]
		applies(t, m, r)
	}
	for i := range held {
		if fmt.Sprint(held[i]) != fmt.Sprint(want[i]) {
			t.Errorf("record %d is %v, was %v", i, held[i], want[i])
		}
	}
}

// Two Metas that are handed the same lists have none in common.
func TestMetasAreApart(t *testing.T) {
	recs := wide()
	one, other := of(t, recs...), of(t, recs...)
	was := told(other)
	applies(t, one, move(7, 0, 999), put("a", 5, 8, 1), table(1, 1, 1, 1, 1, 1), del("c"))
	if is := told(other); is != was {
		t.Errorf("was\n%s, is\n%s", was, is)
	}
}

// Each of a Meta and its Copy goes on as if there were no other one.
func TestCopyIsApart(t *testing.T) {
	recs := everyKind()
	all := told(of(t, recs...))
	for i := range len(recs) + 1 {
		m := of(t, recs[:i]...)
		was := told(m)
		c := m.Copy()
		if is := told(c); is != was {
			t.Fatalf("of %d: the Copy is\n%s, want\n%s", i, is, was)
		}
		applies(t, m, recs[i:]...)
		if is := told(c); is != was {
			t.Fatalf("of %d: the Copy was\n%s, is\n%s", i, was, is)
		}
		d := c.Copy()
		applies(t, c, recs[i:]...)
		if told(d) != was || told(c) != all || told(m) != all {
			t.Fatalf("of %d: the Copy, or its Copy, is another", i)
		}
	}
}

// Promise 14.2: Apply of what is no record.

func TestNotOk(t *testing.T) {
	m := of(t, append(wide(), put("d", 4, 8, 40), put("e", 5, 9, 50), narrow("e", 10, 1, 150))...)
	var wrong []api.Rec
	for _, r := range []api.Rec{put("f", 1, 11, 1), del("d"), narrow("d", 11, 1, 1), mirror("e", 11, 1), merge(11, 1, 10, 10, 10), split(7, 1, 11, 12, 13), move(8, 1, 1), table(1, 1, 1, 1, 1, 1)} {
		wrong = append(wrong, spoilt(r)...)
	}
	for _, r := range wrong {
		if rec.Ok(r) {
			t.Fatalf("%v is Ok", r)
		}
		refuses(t, m, r, api.ErrArg)
	}
	if len(wrong) < 100 {
		t.Errorf("only %d", len(wrong))
	}
}

// spoilt tells records that are not Ok, each in one way: r had been.
func spoilt(r api.Rec) []api.Rec {
	var all []api.Rec
	try := func(change func(r *api.Rec)) {
		x := r
		x.Locs, x.Sids = slices.Clone(r.Locs), slices.Clone(r.Sids)
		if change(&x); !rec.Ok(x) {
			all = append(all, x)
		}
	}
	for _, kind := range []int{-1, 0, 9, 255, 256 + r.Kind, 1<<32 + r.Kind, math.MinInt, math.MaxInt} {
		try(func(r *api.Rec) { r.Kind = kind })
	}
	for _, key := range []string{"", "z", strings.Repeat("k", 17), "a b", "\x7f", "é", "\x00"} {
		try(func(r *api.Rec) { r.Key = key })
	}
	for _, n := range []int{-1, 1, 16, 65, math.MinInt, math.MaxInt} {
		try(func(r *api.Rec) { r.N = n })
		try(func(r *api.Rec) { r.Colour = n })
		try(func(r *api.Rec) { r.Table.Half = n })
		try(func(r *api.Rec) { r.Table.Hot = 1000000 + n })
	}
	for _, sid := range []int{-1, 0, 1, greatest + 1, math.MinInt, math.MaxInt} {
		try(func(r *api.Rec) { r.Sid = sid })
		try(func(r *api.Rec) { r.Sids = append(r.Sids, sid) })
		for i := range r.Sids {
			try(func(r *api.Rec) { r.Sids[i] = sid })
		}
	}
	try(func(r *api.Rec) { r.Sids = r.Sids[:len(r.Sids)/2] })
	try(func(r *api.Rec) { r.Locs = append(r.Locs, api.Loc{ID: 1}) })
	for i := range r.Locs {
		try(func(r *api.Rec) { r.Locs = r.Locs[i+1:] })
		try(func(r *api.Rec) { r.Locs[i].ID = 0 })
		try(func(r *api.Rec) { r.Locs[i].Disk = 24 })
		try(func(r *api.Rec) { r.Locs[i].Slot = -1 })
	}
	return all
}

// A new Sid may be any that is not below Next.
func TestNewSids(t *testing.T) {
	m := of(t, append(wide(), put("d", 4, 8, 40), put("e", 5, 9, 50), narrow("e", 10, 1, 150))...)
	for sid := 1; sid <= 100; sid++ {
		for _, x := range []struct {
			r api.Rec
			n int
		}{
			{put("f", 6, sid, 1), 6}, {put("a", 6, sid, 1), 6}, {put("d", 6, sid, 1), 6}, {narrow("d", sid, 2, 1), 4}, {mirror("e", sid, 1), 5},
		} {
			if sid < 11 {
				refuses(t, m, x.r, api.ErrSid)
				continue
			}
			c := m.Copy()
			applies(t, c, x.r)
			blobIs(t, c, x.r.Key, x.n, sid, 0)
			if c.Next() != sid+1 {
				t.Errorf("Apply(%v): Next = %d", x.r, c.Next())
			}
		}
	}
}

// That one of them is below Next is told ahead of what else is wrong.
func TestNewSidsAreAskedFirst(t *testing.T) {
	m := of(t, append(wide(), put("d", 4, 8, 40), put("e", 5, 9, 50), narrow("e", 10, 1, 150))...)
	for _, x := range []struct {
		of   func(sid int) api.Rec
		want api.Errno // of a Sid that may be
	}{
		{func(sid int) api.Rec { return narrow("z", sid, 0, 1) }, api.ErrKey},
		{func(sid int) api.Rec { return narrow("e", sid, 0, 1) }, api.ErrKind},
		{func(sid int) api.Rec { return narrow("a", sid, 0, 1) }, api.ErrKind},
		{func(sid int) api.Rec { return mirror("z", sid, 1) }, api.ErrKey},
		{func(sid int) api.Rec { return mirror("d", sid, 1) }, api.ErrKind},
		{func(sid int) api.Rec { return mirror("a", sid, 1) }, api.ErrKind},
		{func(sid int) api.Rec { return merge(sid, 1, 10, 8, 7) }, api.ErrKind},
		{func(sid int) api.Rec { return split(8, 1, sid, 98, 99) }, api.ErrKind},
		{func(sid int) api.Rec { return split(7, 1, sid, 0, 0) }, api.ErrArg},
	} {
		for sid := 1; sid < 20; sid++ {
			if sid < 11 {
				refuses(t, m, x.of(sid), api.ErrSid)
			} else {
				refuses(t, m, x.of(sid), x.want)
			}
		}
	}
}

// Promise 14.2: RPut.

func TestPut(t *testing.T) {
	for _, n := range []int{0, 1, 63, 64} {
		m := of(t, put("k", n, 1, 10))
		knows(t, m, []string{"k"}, 1)
		blobIs(t, m, "k", n, 1, 0)
		stripeIs(t, m, 1, api.KMirror, 0, [3]string{"k"}, locs(10, 3))
	}
}

// A blob that is put again is gone as it was.
func TestPutAgain(t *testing.T) {
	m := of(t, put("a", 1, 1, 10), put("b", 2, 2, 20), put("a", 3, 3, 30))
	knows(t, m, []string{"a", "b"}, 2, 3)
	blobIs(t, m, "a", 3, 3, 0)
	blobIs(t, m, "b", 2, 2, 0)
	stripeIs(t, m, 3, api.KMirror, 0, [3]string{"a"}, locs(30, 3))
	applies(t, m, narrow("a", 4, 2, 40), put("a", 0, 5, 50))
	knows(t, m, []string{"a", "b"}, 2, 5)
	blobIs(t, m, "a", 0, 5, 0)
	stripeIs(t, m, 5, api.KMirror, 0, [3]string{"a"}, locs(50, 3))
}

// Of a wide Stripe its part is dead, and the last one takes all away.
func TestPutAgainOfWide(t *testing.T) {
	m := of(t, append(wide(), put("b", 20, 8, 50))...)
	knows(t, m, []string{"a", "b", "c"}, 7, 8)
	stripeIs(t, m, 7, api.KWide, 0, [3]string{"a", "", "c"}, wideLocs())
	blobIs(t, m, "b", 20, 8, 0)
	applies(t, m, put("c", 30, 9, 60))
	stripeIs(t, m, 7, api.KWide, 0, [3]string{"a", "", ""}, wideLocs())
	blobIs(t, m, "a", 1, 7, 0)
	applies(t, m, put("a", 10, 10, 70))
	knows(t, m, []string{"a", "b", "c"}, 8, 9, 10)
	stripeIsNot(t, m, 7)
	blobIs(t, m, "a", 10, 10, 0)
	blobIs(t, m, "c", 30, 9, 0)
}

// Promise 14.2: RDel.

func TestDel(t *testing.T) {
	m := of(t, put("a", 1, 1, 10), put("b", 2, 2, 20), narrow("b", 3, 1, 30), put("c", 3, 4, 40))
	refuses(t, m, del("d"), api.ErrKey)
	applies(t, m, del("a"))
	knows(t, m, []string{"b", "c"}, 3, 4)
	refuses(t, m, del("a"), api.ErrKey)
	applies(t, m, del("b"))
	knows(t, m, []string{"c"}, 4)
	blobIsNot(t, m, "b")
	stripeIsNot(t, m, 3)
	applies(t, m, del("c"))
	knows(t, m, nil)
	refuses(t, m, del("c"), api.ErrKey)
	if m.Next() != 5 || len(m.Locs()) != 0 {
		t.Errorf("Next = %d, Locs = %v", m.Next(), m.Locs())
	}
	refuses(t, m, put("a", 1, 4, 10), api.ErrSid)
}

// In whatever order the parts die, the Stripe is there till the last one.
func TestDelOfWide(t *testing.T) {
	keys := [3]string{"a", "b", "c"}
	for _, order := range [][]int{{0, 1, 2}, {0, 2, 1}, {1, 0, 2}, {1, 2, 0}, {2, 0, 1}, {2, 1, 0}} {
		m := of(t, wide()...)
		left := keys
		for i, part := range order {
			applies(t, m, del(keys[part]))
			left[part] = ""
			refuses(t, m, del(keys[part]), api.ErrKey)
			blobIsNot(t, m, keys[part])
			if i == 2 {
				break
			}
			stripeIs(t, m, 7, api.KWide, 0, left, wideLocs())
			for p, key := range left {
				if key != "" {
					blobIs(t, m, key, p+1, 7, p)
				}
			}
		}
		knows(t, m, nil)
		stripeIsNot(t, m, 7)
		if m.Next() != 8 {
			t.Errorf("Next = %d", m.Next())
		}
	}
}

// Promise 14.2: RNarrow and RMirror.

func TestNarrow(t *testing.T) {
	for colour := range 3 {
		m := of(t, put("a", 9, 1, 10), put("b", 8, 2, 20), narrow("a", 3, colour, 30))
		knows(t, m, []string{"a", "b"}, 2, 3)
		blobIs(t, m, "a", 9, 3, 0)
		blobIs(t, m, "b", 8, 2, 0)
		stripeIs(t, m, 3, api.KNarrow, colour, [3]string{"a"}, locs(30, 6))
		refuses(t, m, narrow("a", 4, colour, 40), api.ErrKind)
		refuses(t, m, narrow("c", 4, colour, 40), api.ErrKey)
	}
	refuses(t, of(t, wide()...), narrow("b", 8, 1, 40), api.ErrKind)
}

func TestMirror(t *testing.T) {
	for colour := range 3 {
		m := of(t, put("a", 9, 1, 10), narrow("a", 2, colour, 20), put("b", 8, 3, 30), mirror("a", 4, 40))
		knows(t, m, []string{"a", "b"}, 3, 4)
		blobIs(t, m, "a", 9, 4, 0)
		stripeIs(t, m, 4, api.KMirror, 0, [3]string{"a"}, locs(40, 3))
		refuses(t, m, mirror("a", 5, 50), api.ErrKind)
		refuses(t, m, mirror("b", 5, 50), api.ErrKind)
		refuses(t, m, mirror("c", 5, 50), api.ErrKey)
		applies(t, m, narrow("a", 5, 2-colour, 50))
		stripeIs(t, m, 5, api.KNarrow, 2-colour, [3]string{"a"}, locs(50, 6))
	}
	refuses(t, of(t, wide()...), mirror("b", 8, 40), api.ErrKind)
}

// Promise 14.2: RMerge.

func TestMerge(t *testing.T) {
	m := of(t, append(narrows(), put("d", 4, 7, 40), narrow("d", 8, 1, 150))...)
	applies(t, m, merge(20, 160, 2, 8, 6))
	knows(t, m, []string{"a", "b", "c", "d"}, 4, 20)
	stripeIs(t, m, 20, api.KWide, 0, [3]string{"a", "d", "c"}, join(locs(110, 4), locs(150, 4), locs(130, 4), locs(160, 4)))
	stripeIs(t, m, 4, api.KNarrow, 1, [3]string{"b"}, locs(120, 6))
	blobIs(t, m, "a", 1, 20, 0)
	blobIs(t, m, "d", 4, 20, 1)
	blobIs(t, m, "c", 3, 20, 2)
	blobIs(t, m, "b", 2, 4, 0)
}

// Its parts are those of Sids' places, whichever of them are less.
func TestMergeOfSidsThatDoNotRise(t *testing.T) {
	m := of(t, put("a", 1, 1, 10), narrow("a", 2, 2, 110), put("b", 2, 3, 20), narrow("b", 4, 0, 120), put("c", 3, 5, 30), narrow("c", 6, 1, 130), merge(7, 140, 4, 6, 2))
	stripeIs(t, m, 7, api.KWide, 0, [3]string{"b", "c", "a"}, join(locs(120, 4), locs(130, 4), locs(110, 4), locs(140, 4)))
	blobIs(t, m, "b", 2, 7, 0)
	blobIs(t, m, "c", 3, 7, 1)
	blobIs(t, m, "a", 1, 7, 2)
}

func TestMergeRefuses(t *testing.T) {
	// 1 is gone, 2, 4 and 6 are of Colours 0, 1 and 2, and 8 of 1; 9 is mirrored, 16 wide, and 17 new.
	m := of(t, append(narrows(), put("d", 4, 7, 40), narrow("d", 8, 1, 150), put("e", 5, 9, 50),
		put("f", 6, 10, 60), narrow("f", 11, 0, 160), put("g", 7, 12, 70), narrow("g", 13, 1, 170), put("h", 8, 14, 80), narrow("h", 15, 2, 180), merge(16, 190, 11, 13, 15))...)
	for _, x := range []struct {
		sids []int
		want api.Errno
	}{
		{[]int{1, 4, 6}, api.ErrSid}, {[]int{2, 1, 6}, api.ErrSid}, {[]int{2, 4, 1}, api.ErrSid},
		{[]int{17, 4, 6}, api.ErrSid}, {[]int{2, 17, 6}, api.ErrSid}, {[]int{2, 4, 17}, api.ErrSid},
		{[]int{2, 4, greatest}, api.ErrSid}, {[]int{2, 4, 11}, api.ErrSid},
		{[]int{2, 2, 6}, api.ErrSid}, {[]int{2, 4, 2}, api.ErrSid}, {[]int{2, 4, 4}, api.ErrSid}, {[]int{2, 2, 2}, api.ErrSid},
		{[]int{4, 4, 6}, api.ErrSid}, {[]int{9, 9, 6}, api.ErrSid}, {[]int{2, 9, 2}, api.ErrSid}, {[]int{2, 6, 6}, api.ErrSid}, // twice, and of no such Kind or Colour
		{[]int{4, 2, 2}, api.ErrKind}, {[]int{9, 6, 6}, api.ErrKind}, // the first one is not there twice
		{[]int{9, 4, 6}, api.ErrKind}, {[]int{2, 9, 6}, api.ErrKind}, {[]int{2, 4, 9}, api.ErrKind},
		{[]int{16, 4, 6}, api.ErrKind}, {[]int{2, 16, 6}, api.ErrKind}, {[]int{2, 4, 16}, api.ErrKind},
		{[]int{4, 2, 6}, api.ErrKind}, {[]int{2, 6, 4}, api.ErrKind}, {[]int{6, 4, 2}, api.ErrKind}, {[]int{2, 4, 8}, api.ErrKind}, {[]int{8, 4, 6}, api.ErrKind},
		{[]int{1, 9, 6}, api.ErrSid}, {[]int{9, 1, 6}, api.ErrKind}, {[]int{2, 1, 9}, api.ErrSid}, {[]int{2, 9, 1}, api.ErrKind},
		{[]int{0, 4, 6}, api.ErrArg}, {[]int{2, 4}, api.ErrArg}, {[]int{2, 4, 6, 8}, api.ErrArg}, {nil, api.ErrArg},
	} {
		refuses(t, m, merge(17, 200, x.sids...), x.want)
	}
	applies(t, m, merge(17, 200, 2, 8, 6))
	refuses(t, m, merge(18, 200, 2, 4, 6), api.ErrSid)
}

// Promise 14.2: RSplit.

// Split off is each part that is not dead, whichever these are.
func TestSplit(t *testing.T) {
	keys := [3]string{"a", "b", "c"}
	for dead := range 7 {
		m := of(t, wide()...)
		sids, next := []int{0, 0, 0}, 11
		for part, key := range keys {
			if dead>>part&1 == 1 {
				applies(t, m, del(key))
			} else {
				sids[part] = next
				next += 10 + part
			}
		}
		applies(t, m, split(7, 200, sids...))
		id := 200
		var left []string
		for part, key := range keys {
			if dead>>part&1 == 1 {
				blobIsNot(t, m, key)
				continue
			}
			left = append(left, key)
			blobIs(t, m, key, part+1, sids[part], 0)
			stripeIs(t, m, sids[part], api.KNarrow, part, [3]string{key}, join(locs(110+10*part, 4), locs(200, 6)[id-200:id-198]))
			id += 2
		}
		knows(t, m, left, slices.DeleteFunc(slices.Clone(sids), func(sid int) bool { return sid == 0 })...)
		stripeIsNot(t, m, 7)
	}
}

func TestSplitRefuses(t *testing.T) {
	m := of(t, append(wide(), put("d", 4, 8, 40), put("e", 5, 9, 50), narrow("e", 10, 1, 150))...)
	for dead := range 7 {
		c := m.Copy()
		for part, key := range []string{"a", "b", "c"} {
			if dead>>part&1 == 1 {
				applies(t, c, del(key))
			}
		}
		for named := range 8 {
			sids := []int{0, 0, 0}
			for part := range sids {
				if named>>part&1 == 1 {
					sids[part] = 11 + part
				}
			}
			for _, sid := range []int{1, 6, 11, 12, 99, greatest} {
				refuses(t, c, split(sid, 200, sids...), api.ErrSid)
			}
			refuses(t, c, split(8, 200, sids...), api.ErrKind)
			refuses(t, c, split(10, 200, sids...), api.ErrKind)
			if named != 7-dead {
				refuses(t, c, split(7, 200, sids...), api.ErrArg)
			}
		}
	}
}

// Each of its Sids is above those ahead of it, and none below Next.
func TestSplitOfSids(t *testing.T) {
	m := of(t, wide()...) // Next is 8
	for _, sids := range [][]int{{7, 8, 9}, {8, 7, 9}, {8, 9, 7}, {8, 8, 9}, {8, 9, 9}, {9, 8, 10}, {8, 10, 9}, {10, 9, 8}, {8, 9, 8}, {9, 10, 8}, {1, 2, 3}, {greatest, 8, 9}, {0, 9, 8}, {8, 0, 8}, {9, 8, 0}, {7, 0, 0}, {0, 7, 0}, {0, 0, 7}} {
		refuses(t, m, split(7, 200, sids...), api.ErrSid)
		refuses(t, m, split(99, 200, sids...), api.ErrSid)
	}
	for _, sids := range [][]int{{8, 9, 10}, {8, 10, 20}, {100, 101, greatest}} {
		c := m.Copy()
		applies(t, c, split(7, 200, sids...))
		knows(t, c, []string{"a", "b", "c"}, sids...)
		if c.Next() != sids[2]+1 {
			t.Errorf("Next = %d", c.Next())
		}
	}
}

func TestSplitOfLocs(t *testing.T) {
	m := of(t, wide()...)
	for n := range 12 {
		r := split(7, 200, 8, 9, 10)
		r.Locs = locs(200, n)
		if n != 6 {
			refuses(t, m, r, api.ErrArg)
		}
	}
	applies(t, m, del("a"), split(7, 200, 0, 8, 9))
}

// What was split off may be merged, with others too, and split again.
func TestSplitAndMergedAgain(t *testing.T) {
	m := of(t, append(wide(), del("b"), split(7, 200, 8, 0, 9), put("d", 4, 10, 40), narrow("d", 11, 1, 210), move(9, 0, 999))...)
	applies(t, m, merge(12, 220, 8, 11, 9))
	third := locs(130, 4)
	third[0] = api.Loc{Disk: 23, Slot: 63, ID: 999}
	stripeIs(t, m, 12, api.KWide, 0, [3]string{"a", "d", "c"}, join(locs(110, 4), locs(210, 4), third, locs(220, 4)))
	applies(t, m, split(12, 230, 13, 14, 15))
	stripeIs(t, m, 14, api.KNarrow, 1, [3]string{"d"}, join(locs(210, 4), locs(230, 6)[2:4]))
	stripeIs(t, m, 15, api.KNarrow, 2, [3]string{"c"}, join(third, locs(230, 6)[4:]))
	blobIs(t, m, "d", 4, 14, 0)
}

// What is split off has none of its Locs in common with another.
func TestSplitIsApart(t *testing.T) {
	m := of(t, append(wide(), split(7, 200, 8, 9, 10))...)
	want := [][]api.Loc{join(locs(110, 4), locs(200, 2)), join(locs(120, 4), locs(200, 6)[2:4]), join(locs(130, 4), locs(200, 6)[4:])}
	for i := range 3 {
		for n := range 6 {
			applies(t, m, move(8+i, n, 500+n))
			want[i][n] = api.Loc{Disk: 23, Slot: 63, ID: 500 + n}
			for j, key := range []string{"a", "b", "c"} {
				stripeIs(t, m, 8+j, api.KNarrow, j, [3]string{key}, want[j])
			}
		}
	}
}

// Promise 14.2: RMove.

func TestMove(t *testing.T) {
	start := of(t, append(wide(), put("d", 4, 8, 40), put("e", 5, 9, 50), narrow("e", 10, 1, 150))...)
	for sid, size := range map[int]int{7: 16, 8: 3, 10: 6} {
		for n := range 16 {
			m := start.Copy()
			if n >= size {
				refuses(t, m, move(sid, n, 999), api.ErrArg)
				continue
			}
			s, _ := m.Stripe(sid)
			want := s.Locs
			want[n] = api.Loc{Disk: 23, Slot: 63, ID: 999}
			applies(t, m, move(sid, n, 999))
			stripeIs(t, m, sid, s.Kind, s.Colour, s.Keys, want)
			for _, other := range []int{7, 8, 10} {
				if s, _ := start.Stripe(other); other != sid {
					stripeIs(t, m, other, s.Kind, s.Colour, s.Keys, s.Locs)
				}
			}
			knows(t, m, []string{"a", "b", "c", "d", "e"}, 7, 8, 10)
		}
	}
	for _, sid := range []int{1, 2, 6, 9, 11, 99, greatest} {
		refuses(t, start, move(sid, 0, 999), api.ErrSid)
		refuses(t, start, move(sid, 15, 999), api.ErrSid)
	}
}

// A dead part's chunks may be moved as well.
func TestMoveOfADeadPart(t *testing.T) {
	m := of(t, append(wide(), del("b"), move(7, 5, 999))...)
	want := wideLocs()
	want[5] = api.Loc{Disk: 23, Slot: 63, ID: 999}
	stripeIs(t, m, 7, api.KWide, 0, [3]string{"a", "", "c"}, want)
}

// model is layouts in the order in which they were made, by the chapter's words; where a blob lies is looked for in them.
type model struct {
	layouts []layout
	length  map[string]int
	next    int
	table   api.Table
}

type layout struct {
	sid int
	s   api.Stripe
}

func newModel() *model {
	return &model{length: map[string]int{}, next: 1}
}

func (m *model) copy() *model {
	c := &model{length: map[string]int{}, next: m.next, table: m.table}
	for _, l := range m.layouts {
		l.s.Locs = slices.Clone(l.s.Locs)
		c.layouts = append(c.layouts, l)
	}
	for key, n := range m.length {
		c.length[key] = n
	}
	return c
}

func (m *model) find(sid int) *api.Stripe {
	for i := range m.layouts {
		if m.layouts[i].sid == sid {
			return &m.layouts[i].s
		}
	}
	return nil
}

// home tells where key's blob lies: Sid -1, if there is none.
func (m *model) home(key string) (sid, part int) {
	for _, l := range m.layouts {
		for part, k := range l.s.Keys {
			if k == key {
				return l.sid, part
			}
		}
	}
	return -1, 0
}

func (m *model) remove(sid int) {
	m.layouts = slices.DeleteFunc(m.layouts, func(l layout) bool { return l.sid == sid })
}

func (m *model) make(sid int, s api.Stripe) {
	s.Locs = slices.Clone(s.Locs)
	m.layouts = append(m.layouts, layout{sid, s})
	m.next = max(m.next, sid+1)
}

func (m *model) kill(key string) {
	sid, part := m.home(key)
	s := m.find(sid)
	s.Keys[part] = ""
	if s.Keys[0]+s.Keys[1]+s.Keys[2] == "" {
		m.remove(sid)
	}
	delete(m.length, key)
}

// newSidsFit tells whether the Sids that r makes may be.
func (m *model) newSidsFit(r api.Rec) bool {
	made := map[int][]int{1: {r.Sid}, 3: {r.Sid}, 4: {r.Sid}, 5: {r.Sid}, 6: r.Sids}[r.Kind]
	least := m.next
	for _, sid := range made {
		if sid == 0 {
			continue
		}
		if sid < least {
			return false
		}
		least = sid + 1
	}
	return true
}

func (m *model) apply(r api.Rec) api.Errno {
	if !rec.Ok(r) {
		return api.ErrArg
	}
	if !m.newSidsFit(r) {
		return api.ErrSid
	}
	_, has := m.length[r.Key]
	sid, _ := m.home(r.Key)
	switch r.Kind {
	case api.RPut:
		if has {
			m.kill(r.Key)
		}
		m.length[r.Key] = r.N
		m.make(r.Sid, api.Stripe{Kind: 1, Keys: [3]string{r.Key}, Locs: r.Locs})
	case api.RDel:
		if !has {
			return api.ErrKey
		}
		m.kill(r.Key)
	case api.RNarrow, api.RMirror:
		if !has {
			return api.ErrKey
		}
		kind := 5 - r.Kind // 2 of RNarrow, 1 of RMirror
		if m.find(sid).Kind != 3-kind {
			return api.ErrKind
		}
		m.remove(sid)
		m.make(r.Sid, api.Stripe{Kind: kind, Colour: r.Colour, Keys: [3]string{r.Key}, Locs: r.Locs})
	case api.RMerge:
		return m.merge(r)
	case api.RSplit:
		return m.split(r)
	case api.RMove:
		s := m.find(r.Sid)
		if s == nil {
			return api.ErrSid
		}
		if r.N >= len(s.Locs) {
			return api.ErrArg
		}
		s.Locs[r.N] = r.Locs[0]
	case api.RTable:
		m.table = r.Table
	}
	return api.OK
}

func (m *model) merge(r api.Rec) api.Errno {
	w := api.Stripe{Kind: 3}
	for i, sid := range r.Sids {
		times := 0
		for _, other := range r.Sids {
			if other == sid {
				times++
			}
		}
		s := m.find(sid)
		switch {
		case s == nil || times > 1:
			return api.ErrSid
		case s.Kind != 2 || s.Colour != i:
			return api.ErrKind
		}
		w.Keys[i] = s.Keys[0]
		for j := range 4 {
			w.Locs = append(w.Locs, s.Locs[j])
		}
	}
	w.Locs = append(w.Locs, r.Locs...)
	for _, sid := range r.Sids {
		m.remove(sid)
	}
	m.make(r.Sid, w)
	return api.OK
}

func (m *model) split(r api.Rec) api.Errno {
	s := m.find(r.Sid)
	if s == nil {
		return api.ErrSid
	}
	if s.Kind != 3 {
		return api.ErrKind
	}
	for i, sid := range r.Sids {
		if sid == 0 && s.Keys[i] != "" || sid != 0 && s.Keys[i] == "" {
			return api.ErrArg
		}
	}
	w := *s
	m.remove(r.Sid)
	for i, at := 0, 0; i < 3; i++ {
		if sid := r.Sids[i]; sid != 0 {
			l := []api.Loc{w.Locs[4*i], w.Locs[4*i+1], w.Locs[4*i+2], w.Locs[4*i+3], r.Locs[at], r.Locs[at+1]}
			m.make(sid, api.Stripe{Kind: 2, Colour: i, Keys: [3]string{w.Keys[i]}, Locs: l})
			at += 2
		}
	}
	return api.OK
}

// told tells what told tells of a Meta that knows the same.
func (m *model) told() string {
	var s strings.Builder
	var keys []string
	for key := range m.length {
		keys = append(keys, key)
	}
	slices.Sort(keys)
	for _, key := range keys {
		sid, part := m.home(key)
		fmt.Fprintf(&s, "%q %v true\n", key, api.Blob{N: m.length[key], Sid: sid, Part: part})
	}
	var all []api.Loc
	// Sids of new Stripes rise, so Stripes lie in order.
	for _, l := range m.layouts {
		fmt.Fprintf(&s, "%d %d %d %q %v true\n", l.sid, l.s.Kind, l.s.Colour, l.s.Keys, l.s.Locs)
		all = append(all, l.s.Locs...)
	}
	fmt.Fprintf(&s, "%v %d %v\n", all, m.next, m.table)
	return s.String()
}

// Promise 14.2, of each state of a script all records of a few keys, Sids and Colours.
func TestAllRecords(t *testing.T) {
	recs := append(everyKind(), narrow("a", 13, 1, 190), put("e", 5, 14, 200), narrow("e", 15, 0, 210), merge(16, 220, 15, 13, 10), del("e"))
	m, x := meta.New(), newModel()
	outcomes := map[string]int{}
	for i := range len(recs) + 1 {
		for _, r := range allRecords(m.Next()) {
			c := m.Copy()
			y := x.copy()
			e, want := c.Apply(r), y.apply(r)
			if e != want {
				t.Fatalf("behind %d: Apply(%v) = %v, want %v", i, r, e, want)
			}
			if want == api.OK && told(c) != y.told() {
				t.Fatalf("behind %d: Apply(%v) makes\n%s, want\n%s", i, r, told(c), y.told())
			}
			outcomes[fmt.Sprint(r.Kind, " ", want)]++
		}
		if i < len(recs) {
			applies(t, m, recs[i])
			x.apply(recs[i])
		}
	}
	reached(t, outcomes)
}

// allRecords are those of keys a to f, Sids up to just above next, all Colours and places.
func allRecords(next int) []api.Rec {
	var all []api.Rec
	least := max(1, next-4)
	for key := range strings.SplitSeq("a b c d e f", " ") {
		all = append(all, del(key))
		for sid := max(1, next-2); sid < next+3; sid++ {
			all = append(all, put(key, 6, sid, 300), mirror(key, sid, 310))
			for colour := range 3 {
				all = append(all, narrow(key, sid, colour, 320))
			}
		}
	}
	for i := range (next + 2) * (next + 2) * (next + 2) {
		a, b, c := i%(next+2), i/(next+2)%(next+2), i/(next+2)/(next+2)
		if i%3 == 0 || max(a, b, c) < 8 { // of the greater ones all would be too many
			all = append(all, merge(next+i%2, 330, a, b, c))
		}
	}
	for sid := least; sid < next+1; sid++ {
		for i := range 125 {
			all = append(all, split(sid, 340, orNone(i%5, next), orNone(i/5%5, next), orNone(i/25, next)))
		}
	}
	for sid := range next + 2 {
		for n := range 17 {
			all = append(all, move(sid, n, 350))
		}
	}
	return append(all, table(1, 2, 3, 4, 5, 6))
}

// orNone tells 0 of 0, else a Sid from just below next on.
func orNone(n, next int) int {
	if n == 0 {
		return 0
	}
	return next - 2 + n
}

// reached tells whether each error that a Kind of record may be told was told.
func reached(t *testing.T, outcomes map[string]int) {
	t.Helper()
	for _, x := range []struct {
		kind   int
		errors []api.Errno
	}{
		{api.RPut, []api.Errno{api.OK, api.ErrSid}}, {api.RDel, []api.Errno{api.OK, api.ErrKey}},
		{api.RNarrow, []api.Errno{api.OK, api.ErrSid, api.ErrKey, api.ErrKind}}, {api.RMirror, []api.Errno{api.OK, api.ErrSid, api.ErrKey, api.ErrKind}},
		{api.RMerge, []api.Errno{api.OK, api.ErrSid, api.ErrKind}}, {api.RSplit, []api.Errno{api.OK, api.ErrSid, api.ErrKind, api.ErrArg}},
		{api.RMove, []api.Errno{api.OK, api.ErrSid, api.ErrArg}}, {api.RTable, []api.Errno{api.OK}},
	} {
		for _, e := range x.errors {
			if outcomes[fmt.Sprint(x.kind, " ", e)] == 0 {
				t.Errorf("no record of Kind %d was told %v", x.kind, e)
			}
		}
	}
}

// Promise 14.3: each blob has just one layout.

// oneLayout tells whether blobs and Stripes name each other, each once, and all is of its Kind.
func oneLayout(t *testing.T, m *meta.Meta) {
	t.Helper()
	named, chunks, colours := map[string]int{}, 0, map[int]int{api.KMirror: 1, api.KNarrow: 3, api.KWide: 1}
	for _, sid := range m.Sids() {
		s, _ := m.Stripe(sid)
		for part, key := range s.Keys {
			if key == "" {
				continue
			}
			named[key]++
			if b, ok := m.Blob(key); !ok || b.Sid != sid || b.Part != part || b.N < 0 || b.N > 64 {
				t.Fatalf("Stripe %d has part %d of %q, which is %v, %v", sid, part, key, b, ok)
			}
		}
		if len(s.Locs) != map[int]int{api.KMirror: 3, api.KNarrow: 6, api.KWide: 16}[s.Kind] || s.Colour < 0 || s.Colour >= colours[s.Kind] {
			t.Fatalf("Stripe %d is %v", sid, s)
		}
		if s.Keys == [3]string{} || s.Kind != api.KWide && (s.Keys[0] == "" || s.Keys[1]+s.Keys[2] != "") || sid < 1 || sid >= m.Next() {
			t.Fatalf("Stripe %d is %v; Next = %d", sid, s, m.Next())
		}
		chunks += len(s.Locs)
	}
	for _, key := range m.Keys() {
		if named[key] != 1 {
			t.Fatalf("%q has %d layouts", key, named[key])
		}
	}
	if len(named) != len(m.Keys()) || len(m.Locs()) != chunks {
		t.Fatalf("%d keys and %d of Stripes, %d Locs and %d of Stripes", len(m.Keys()), len(named), len(m.Locs()), chunks)
	}
}

// script tells a record that fits what m knows, more often than not.
func (x *mixer) script(m *meta.Meta) api.Rec {
	next := m.Next() + max(0, x.below(20)-16)
	if x.below(20) == 0 {
		next = max(1, next-1-x.below(3))
	}
	key := string(rune('a' + x.below(12)))
	stripe := max(1, m.Next()-x.below(30))
	if sids := m.Sids(); len(sids) > 0 && x.below(8) > 0 {
		stripe = sids[x.below(len(sids))]
	}
	id := 1 + x.below(1<<30)
	switch x.below(12) {
	case 0, 1, 2:
		return put(key, x.below(65), next, id)
	case 3:
		return del(key)
	case 4, 5, 6:
		return narrow(key, next, x.below(3), id)
	case 7:
		return mirror(key, next, id)
	case 8, 9:
		return merge(next, id, x.threeNarrow(m)...)
	case 10:
		return x.splitOf(m, stripe, next, id)
	}
	if x.below(10) == 0 {
		return table(x.below(9), x.below(9), x.below(9), x.below(9), x.below(9), x.below(9))
	}
	return move(stripe, x.below(16), id)
}

// threeNarrow tells Sids that may be merged, if there are such; now and then others.
func (x *mixer) threeNarrow(m *meta.Meta) []int {
	sids := []int{1 + x.below(m.Next()), 1 + x.below(m.Next()), 1 + x.below(m.Next())}
	for _, sid := range m.Sids() {
		if s, _ := m.Stripe(sid); s.Kind == api.KNarrow && x.below(12) > 0 {
			sids[s.Colour] = sid
		}
	}
	if x.below(12) == 0 {
		sids[x.below(3)] = sids[x.below(3)]
	}
	return sids
}

// splitOf tells a record by which one that is wide may be split; now and then another.
func (x *mixer) splitOf(m *meta.Meta, sid, next, id int) api.Rec {
	for _, wide := range m.Sids() {
		if s, _ := m.Stripe(wide); s.Kind == api.KWide && x.below(3) > 0 {
			sid = wide
		}
	}
	s, _ := m.Stripe(sid)
	sids := []int{0, 0, 0}
	for part := range sids {
		if (s.Keys[part] != "") == (x.below(20) > 0) {
			sids[part] = next
			next++
			if x.below(20) == 0 {
				next += 2
			}
		}
	}
	return split(sid, id, sids...)
}

func TestScripts(t *testing.T) {
	outcomes := map[string]int{}
	for seed := range 40 {
		x := mixer(seed)
		m, want := meta.New(), newModel()
		for step := range 400 {
			r := x.script(m)
			e, wantE := m.Apply(r), want.apply(r)
			if e != wantE || told(m) != want.told() {
				t.Fatalf("script %d, step %d: Apply(%v) = %v, want %v; it makes\n%s, want\n%s", seed, step, r, e, wantE, told(m), want.told())
			}
			oneLayout(t, m)
			if x.below(50) == 0 {
				m = m.Copy()
			}
			outcomes[fmt.Sprint(r.Kind, " ", wantE)]++
		}
	}
	reached(t, outcomes)
}

// Many blobs are as few.
func TestMany(t *testing.T) {
	m, want := meta.New(), newModel()
	for i := range 600 {
		key := fmt.Sprint(i * 7 % 600)
		for _, r := range []api.Rec{put(key, i%65, m.Next(), 10*i+1), narrow(key, m.Next()+1, i%3, 10*i+5)} {
			applies(t, m, r)
			want.apply(r)
		}
	}
	if told(m) != want.told() {
		t.Fatal("not as the model")
	}
	for len(m.Sids()) > 200 {
		sids := m.Sids()
		r := merge(m.Next(), 9000, sids[0], sids[1], sids[2])
		applies(t, m, r)
		want.apply(r)
	}
	oneLayout(t, m)
	if told(m) != want.told() {
		t.Fatal("not as the model")
	}
	for _, key := range m.Keys() {
		applies(t, m, del(key))
	}
	knows(t, m, nil)
}

// Promise 14.4: no call panics, and each ends.

// strange are numbers that few things have.
func strange() []int {
	return []int{math.MinInt, math.MinInt32, -1, 0, 1, 2, 3, 5, 7, 8, 15, 16, 23, 24, 63, 64, 65, 255, 256, 1 << 16, greatest, greatest + 1, 1 << 32, math.MaxInt}
}

func TestNoCallPanics(t *testing.T) {
	x := mixer(14)
	one := func() int { return strange()[x.below(len(strange()))] }
	few := func() int { return x.below(12) }
	some := func(n func() int) []int {
		var l []int
		for range x.below(5) {
			l = append(l, n())
		}
		return l
	}
	m := of(t, wide()...)
	for i := range 60000 {
		n := few
		if x.below(2) == 0 {
			n = one
		}
		r := api.Rec{Kind: n(), Key: strings.Repeat(string(rune('a'+x.below(4))), x.below(3)), N: n(), Sid: n(), Sids: some(n), Colour: n()}
		for range []int{0, 1, 2, 3, 4, 6}[x.below(6)] {
			r.Locs = append(r.Locs, api.Loc{Disk: n(), Slot: n(), ID: 1 + n()})
		}
		if x.below(3) > 0 {
			r = tidy(r)
		}
		was := told(m)
		e := m.Apply(r)
		if e != api.OK && told(m) != was || e == api.OK && !rec.Ok(r) {
			t.Fatalf("Apply(%v) = %v makes\n%s of\n%s", r, e, told(m), was)
		}
		m.Blob(r.Key)
		m.Stripe(r.Sid)
		oneLayout(t, m)
		if i%500 == 0 {
			m = of(t, wide()...)
		}
	}
}

// tidy tells r without what its Kind does not name.
func tidy(r api.Rec) api.Rec {
	switch r.Kind {
	case api.RPut:
		return api.Rec{Kind: r.Kind, Key: r.Key, N: r.N, Sid: r.Sid, Locs: r.Locs}
	case api.RDel:
		return del(r.Key)
	case api.RNarrow:
		return api.Rec{Kind: r.Kind, Key: r.Key, Sid: r.Sid, Colour: r.Colour, Locs: r.Locs}
	case api.RMirror:
		return api.Rec{Kind: r.Kind, Key: r.Key, Sid: r.Sid, Locs: r.Locs}
	case api.RMerge, api.RSplit:
		return api.Rec{Kind: r.Kind, Sid: r.Sid, Sids: r.Sids, Locs: r.Locs}
	case api.RMove:
		return api.Rec{Kind: r.Kind, N: r.N, Sid: r.Sid, Locs: r.Locs}
	}
	return api.Rec{Kind: r.Kind, Table: r.Table}
}
