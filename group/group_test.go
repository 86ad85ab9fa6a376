package group_test

import (
	"fmt"
	"math"
	"slices"
	"strings"
	"testing"

	"hypocaust/api"
	"hypocaust/group"
	"hypocaust/meta"
)

// mixer tells numbers that look mixed, the same ones each time.
type mixer uint64

func (m *mixer) below(n int) int {
	*m = *m*6364136223846793005 + 1442695040888963407
	return int(uint64(*m) >> 33 % uint64(n))
}

// disks tells n disks of 0 to below-1, each once.
func (m *mixer) disks(n, below int) []int {
	all := upTo(below)
	for i := range n {
		at := i + m.below(below-i)
		all[i], all[at] = all[at], all[i]
	}
	return all[:n]
}

// strange are numbers that few things have, each once.
func strange() []int {
	return []int{math.MinInt, math.MinInt + 1, -1 << 32, math.MinInt32, -256, -24, -2, -1, 0, 1, 2, 3, 4, 5, 6, 11, 12, 13, 16, 23, 24, 63, 64, 255, 256, 1 << 16, math.MaxInt32, 1 << 32, 1<<32 + 1, 1<<32 + 2, 1 << 62, math.MaxInt - 1, math.MaxInt}
}

// upTo tells 0 to n-1.
func upTo(n int) []int {
	l := make([]int, n)
	for i := range l {
		l[i] = i
	}
	return l
}

// on tells Locs on these disks.
func on(disks ...int) []api.Loc {
	var l []api.Loc
	for i, d := range disks {
		l = append(l, api.Loc{Disk: d, Slot: i, ID: i + 1})
	}
	return l
}

// applies Applies records that are all OK.
func applies(t *testing.T, m *meta.Meta, recs ...api.Rec) {
	t.Helper()
	for _, r := range recs {
		if e := m.Apply(r); e != api.OK {
			t.Fatalf("Apply(%v) = %v", r, e)
		}
	}
}

// mirror makes a new blob known, mirrored, and tells its Sid.
func mirror(t *testing.T, m *meta.Meta, key string) int {
	t.Helper()
	sid := m.Next()
	applies(t, m, api.Rec{Kind: api.RPut, Key: key, N: 1, Sid: sid, Locs: on(0, 1, 2)})
	return sid
}

// narrow makes a new blob known, as a narrow Stripe whose data lie on these four disks and its parities on 20 and 21, and tells its Sid.
func narrow(t *testing.T, m *meta.Meta, key string, colour int, disks ...int) int {
	t.Helper()
	sid := mirror(t, m, key) + 1
	applies(t, m, api.Rec{Kind: api.RNarrow, Key: key, Sid: sid, Colour: colour, Locs: on(append(slices.Clone(disks), 20, 21)...)})
	return sid
}

// from tells n disks, the first of them and those behind it.
func from(first, n int) []int {
	l := upTo(n)
	for i := range l {
		l[i] += first
	}
	return l
}

// mergeOf tells the record by which these are merged, parities on 16 to 19.
func mergeOf(m *meta.Meta, sids [3]int) api.Rec {
	return api.Rec{Kind: api.RMerge, Sid: m.Next(), Sids: sids[:], Locs: on(16, 17, 18, 19)}
}

// merge merges three new blobs, on the disks 0 to 11, and tells the Sid.
func merge(t *testing.T, m *meta.Meta, keys ...string) int {
	t.Helper()
	var sids [3]int
	for colour, key := range keys {
		sids[colour] = narrow(t, m, key, colour, from(4*colour, 4)...)
	}
	r := mergeOf(m, sids)
	applies(t, m, r)
	return r.Sid
}

// every wants every key.
func every(string) bool { return true }

// of wants these keys.
func of(keys ...string) func(string) bool {
	return func(key string) bool { return slices.Contains(keys, key) }
}

// but wants all other keys.
func but(keys ...string) func(string) bool {
	return func(key string) bool { return !slices.Contains(keys, key) }
}

// told tells all that a Meta tells.
func told(m *meta.Meta) string {
	var s strings.Builder
	for _, sid := range m.Sids() {
		x, _ := m.Stripe(sid)
		fmt.Fprintf(&s, "%d %v\n", sid, x)
	}
	for _, key := range m.Keys() {
		b, _ := m.Blob(key)
		fmt.Fprintf(&s, "%q %v\n", key, b)
	}
	fmt.Fprintf(&s, "%d %v\n", m.Next(), m.Table())
	return s.String()
}

// alike tells whether a number is in all these rows twice: each held against each other one.
func alike(rows ...[]int) bool {
	all := slices.Concat(rows...)
	for i := range all {
		for j := range i {
			if all[i] == all[j] {
				return true
			}
		}
	}
	return false
}

// ready is Ready as the chapter words it, by the keys.
func ready(m *meta.Meta, want func(string) bool) [3][]int {
	var l [3][]int
	for _, key := range m.Keys() {
		b, _ := m.Blob(key)
		if s, _ := m.Stripe(b.Sid); s.Kind == api.KNarrow && want(key) {
			l[s.Colour] = append(l[s.Colour], b.Sid)
		}
	}
	for _, sids := range l {
		slices.Sort(sids)
	}
	return l
}

// four tells the disks of a narrow Stripe's data.
func four(m *meta.Meta, sid int) []int {
	s, _ := m.Stripe(sid)
	var l []int
	for i := range 4 {
		l = append(l, s.Locs[i].Disk)
	}
	return l
}

// pick is Pick as the chapter words it: of all threes that may be, the least one.
func pick(m *meta.Meta, want func(string) bool) ([3]int, bool) {
	var least [3]int
	found := false
	l := ready(m, want)
	for _, c := range l[2] {
		for _, b := range l[1] {
			for _, a := range l[0] {
				three := [3]int{a, b, c}
				if alike(four(m, a), four(m, b), four(m, c)) {
					continue
				}
				if !found || slices.Compare(three[:], least[:]) < 0 {
					least, found = three, true
				}
			}
		}
	}
	return least, found
}

// colour is Colour as the chapter words it: each one's place is how many are ahead of it.
func colour(m *meta.Meta) [3]int {
	var counts, order [3]int
	for _, sid := range m.Sids() {
		if s, _ := m.Stripe(sid); s.Kind == api.KNarrow {
			counts[s.Colour]++
		}
	}
	for c := range 3 {
		place := 0
		for d := range 3 {
			if counts[d] < counts[c] || counts[d] == counts[c] && d < c {
				place++
			}
		}
		order[place] = c
	}
	return order
}

// readyIs tells whether Ready tells just these, of Colour 0, 1, 2.
func readyIs(t *testing.T, m *meta.Meta, want func(string) bool, sids ...[]int) {
	t.Helper()
	got := group.Ready(m, want)
	for c := range 3 {
		if !slices.Equal(got[c], sids[c]) {
			t.Fatalf("Ready = %v, want %v", got, sids)
		}
	}
}

// pickIs tells whether Pick tells just these.
func pickIs(t *testing.T, m *meta.Meta, want func(string) bool, sids ...int) {
	t.Helper()
	if got, ok := group.Pick(m, want); !ok || !slices.Equal(got[:], sids) {
		t.Fatalf("Pick = %v, %v, want %v", got, ok, sids)
	}
}

// pickIsNone tells whether Pick tells that there are none, and nothing beside it.
func pickIsNone(t *testing.T, m *meta.Meta, want func(string) bool) {
	t.Helper()
	if got, ok := group.Pick(m, want); ok || got != [3]int{} {
		t.Fatalf("Pick = %v, %v, want none", got, ok)
	}
}

// colourIs tells whether Colour tells just these.
func colourIs(t *testing.T, m *meta.Meta, colours ...int) {
	t.Helper()
	if got := group.Colour(m); !slices.Equal(got[:], colours) {
		t.Fatalf("Colour = %v, want %v", got, colours)
	}
}

// unlikeIs tells whether Unlike tells what it should.
func unlikeIs(t *testing.T, want bool, rows ...[]int) {
	t.Helper()
	if got := group.Unlike(rows...); got != want {
		t.Fatalf("Unlike(%v) = %v, want %v", rows, got, want)
	}
}

// mixed makes a Meta by records that look mixed; narrow Stripes' chunks lie on so many disks.
func mixed(t *testing.T, mix *mixer, records, disks int) *meta.Meta {
	t.Helper()
	m := meta.New()
	for range records {
		key := string(rune('a' + mix.below(20)))
		b, known := m.Blob(key)
		s, _ := m.Stripe(b.Sid)
		six := on(mix.disks(6, disks)...)
		if mix.below(8) == 0 {
			six[mix.below(4)] = six[mix.below(6)] // it may be unlike none, not even itself
		}
		switch {
		case !known:
			mirror(t, m, key)
		case mix.below(12) == 0:
			applies(t, m, api.Rec{Kind: api.RDel, Key: key})
		case s.Kind == api.KMirror:
			applies(t, m, api.Rec{Kind: api.RNarrow, Key: key, Sid: m.Next(), Colour: mix.below(3), Locs: six})
		case s.Kind == api.KNarrow && mix.below(4) == 0:
			applies(t, m, api.Rec{Kind: api.RMirror, Key: key, Sid: m.Next(), Locs: six[:3]})
		case s.Kind == api.KNarrow:
			applies(t, m, api.Rec{Kind: api.RMove, Sid: b.Sid, N: mix.below(6), Locs: six[:1]})
		case mix.below(3) == 0:
			split(t, m, b.Sid)
		}
		if l := ready(m, every); mix.below(12) == 0 && len(l[0]) > 0 && len(l[1]) > 0 && len(l[2]) > 0 {
			last := func(sids []int) int { return sids[len(sids)-1] }
			applies(t, m, mergeOf(m, [3]int{last(l[0]), last(l[1]), last(l[2])}))
		}
	}
	return m
}

// split splits a wide Stripe, the last part first, as far as Sids tell, and tells the new Sids.
func split(t *testing.T, m *meta.Meta, sid int) []int {
	t.Helper()
	s, _ := m.Stripe(sid)
	sids := make([]int, 3)
	var locs []api.Loc
	next := m.Next()
	for part, key := range s.Keys {
		if key != "" {
			sids[part] = next
			next++
			locs = append(locs, on(22, 23)...)
		}
	}
	applies(t, m, api.Rec{Kind: api.RSplit, Sid: sid, Sids: sids, Locs: locs})
	return sids
}

// Promise 18.1: Data.

func TestDataOfEachKind(t *testing.T) {
	for _, kind := range strange() {
		for count := range 41 {
			s := api.Stripe{Kind: kind, Colour: count - 9, Keys: [3]string{"a", "", "c"}, Locs: on(from(100, count)...)}
			want := from(100, count)
			switch {
			case kind == api.KNarrow && count > 4:
				want = want[:4]
			case kind == api.KWide && count > 12:
				want = want[:12]
			}
			if got := group.Data(s); !slices.Equal(got, want) {
				t.Fatalf("Data of Kind %d, %d Locs = %v, want %v", kind, count, got, want)
			}
		}
	}
}

// The Disks are told as they are: in their order, of whatever number, and as often as they are there.
func TestDataTellsDisks(t *testing.T) {
	disks := append(strange(), 5, 5, -1, 5)
	slices.Reverse(disks)
	for _, kind := range []int{0, api.KMirror, api.KNarrow, api.KWide, 4} {
		for first := range disks {
			l := disks[first:]
			got := group.Data(api.Stripe{Kind: kind, Locs: on(l...)})
			if len(got) > len(l) || !slices.Equal(got, l[:len(got)]) {
				t.Fatalf("Data of Kind %d on %v = %v", kind, l, got)
			}
			if most := len(l); kind != api.KNarrow && kind != api.KWide && len(got) != most {
				t.Fatalf("Data of Kind %d has %d of %d", kind, len(got), most)
			}
		}
	}
}

// Slot and ID are not asked.
func TestDataPassesSlots(t *testing.T) {
	s := api.Stripe{Kind: api.KMirror, Locs: []api.Loc{{Disk: 7, Slot: 1, ID: 2}, {Disk: 7, Slot: 1, ID: 2}, {Disk: 3}}}
	if got := group.Data(s); !slices.Equal(got, []int{7, 7, 3}) {
		t.Errorf("Data = %v", got)
	}
}

func TestDataOfWhatIsKnown(t *testing.T) {
	m := meta.New()
	dataIs := func(sid int, want ...int) {
		t.Helper()
		s, _ := m.Stripe(sid)
		if got := group.Data(s); !slices.Equal(got, want) {
			t.Errorf("Data of %d = %v, want %v", sid, got, want)
		}
	}
	dataIs(mirror(t, m, "a"), 0, 1, 2)
	dataIs(narrow(t, m, "b", 1, 9, 3, 5, 4), 9, 3, 5, 4)
	wide := merge(t, m, "c", "d", "e")
	dataIs(wide, from(0, 12)...)
	applies(t, m, api.Rec{Kind: api.RDel, Key: "d"})
	dataIs(wide, from(0, 12)...) // what is dead lies there yet
	dataIs(99)
}

func TestDataIsNew(t *testing.T) {
	for _, kind := range []int{0, api.KMirror, api.KNarrow, api.KWide} {
		room := on(from(0, 30)...)
		s := api.Stripe{Kind: kind, Locs: room[:20]}
		got := group.Data(s)
		was := slices.Clone(got)
		got = got[:cap(got)]
		for i := range got {
			got[i] = 99
		}
		if again := group.Data(s); !slices.Equal(again, was) || !slices.Equal(room, on(from(0, 30)...)) {
			t.Errorf("Kind %d: Data = %v, want %v; Locs = %v", kind, again, was, room)
		}
	}
}

// Promise 18.1: Unlike.

func TestUnlike(t *testing.T) {
	unlikeIs(t, true)
	unlikeIs(t, true, nil)
	unlikeIs(t, true, []int{})
	unlikeIs(t, true, nil, nil, []int{})
	unlikeIs(t, true, []int{7})
	unlikeIs(t, true, []int{3, 1}, nil, []int{2})
	unlikeIs(t, true, []int{1}, []int{2}, []int{3}, []int{4}, []int{0})
	unlikeIs(t, false, []int{1, 1})
	unlikeIs(t, false, []int{0}, []int{0})
	unlikeIs(t, false, []int{1, 2, 3, 4}, []int{5, 6, 7, 8}, []int{9, 10, 11, 1})
	unlikeIs(t, false, []int{1, 2, 3, 4}, []int{5, 6, 7, 8}, []int{9, 10, 8, 11})
	unlikeIs(t, false, []int{1, 2, 3, 4}, []int{4, 5, 6, 7}, []int{8, 9, 10, 11})
	unlikeIs(t, false, []int{1, 2, 1, 4}, []int{5, 6, 7, 8}, []int{9, 10, 11, 12})
	unlikeIs(t, false, []int{1, 2, 3, 4}, []int{5, 6, 7, 8}, []int{9, 10, 11, 9})
}

// All lists of up to five numbers of four, cut to three rows in each way.
func TestUnlikeOfAllSmall(t *testing.T) {
	for n := range 6 {
		for code := range 1 << (2 * n) {
			l := make([]int, n)
			for i := range l {
				l[i] = code >> (2 * i) & 3
			}
			want := !alike(l)
			for a := range n + 1 {
				for b := a; b <= n; b++ {
					unlikeIs(t, want, l[:a], l[a:b], l[b:])
				}
			}
		}
	}
}

// Numbers are held against each other whole, whichever they are.
func TestUnlikeOfStrange(t *testing.T) {
	l := strange()
	unlikeIs(t, true, l)
	slices.Reverse(l)
	unlikeIs(t, true, l[:9], l[9:])
	for i, n := range l {
		for j := range len(l) + 1 {
			unlikeIs(t, false, slices.Insert(slices.Clone(l), j, n))
			unlikeIs(t, false, l[:j], []int{n}, nil, l[j:])
		}
		for _, o := range l[:i] {
			unlikeIs(t, true, []int{n}, []int{o})
			unlikeIs(t, true, []int{o, n})
		}
	}
}

// There may be as many rows as one likes, and as long ones.
func TestUnlikeOfMany(t *testing.T) {
	l := upTo(100000)
	unlikeIs(t, true, l)
	var rows [][]int
	for row := range slices.Chunk(l, 7) {
		rows = append(rows, row)
	}
	unlikeIs(t, true, rows...)
	unlikeIs(t, false, append(rows, []int{0})...)
	unlikeIs(t, false, append(rows, []int{99999})...)
	unlikeIs(t, false, l, l)
	unlikeIs(t, true, append(rows, []int{100000})...)
	same := make([][]int, 100000)
	unlikeIs(t, true, same...)
	same[0], same[99999] = []int{-3}, []int{-3}
	unlikeIs(t, false, same...)
}

// Rows stay as they are, their spare room too.
func TestUnlikeChangesNothing(t *testing.T) {
	for _, disks := range [][]int{{5, 3, 3, 1, 4, 5, 0, 9}, {8, 7, 6, 5, 4, 3, 2, 1}} {
		room := slices.Clone(disks)
		rows := make([][]int, 3, 4)
		rows[0], rows[1], rows[2] = room[:3], room[3:5], room[1:6]
		group.Unlike(rows[0])
		group.Unlike(rows[:2]...)
		group.Unlike(rows...)
		if !slices.Equal(room, disks) || rows[:4][3] != nil || !slices.Equal(rows[1], disks[3:5]) {
			t.Errorf("Unlike made %v, %v of %v", room, rows, disks)
		}
	}
}

// Promise 18.1: Ready.

func TestReady(t *testing.T) {
	m := meta.New()
	readyIs(t, m, every, nil, nil, nil)
	d := narrow(t, m, "d", 2, 0, 1, 2, 3)
	c := narrow(t, m, "c", 0, 0, 1, 2, 3)
	b := narrow(t, m, "b", 2, 4, 4, 4, 4)
	a := narrow(t, m, "a", 2, 0, 1, 2, 3)
	readyIs(t, m, every, []int{c}, nil, []int{d, b, a}) // by Sid, not by key
	readyIs(t, m, of("a", "d"), nil, nil, []int{d, a})
	readyIs(t, m, of("c"), []int{c}, nil, nil)
	readyIs(t, m, but("c"), nil, nil, []int{d, b, a})
	readyIs(t, m, of("e", ""), nil, nil, nil)
	readyIs(t, m, nil, nil, nil, nil)
}

func TestReadyIsOfNarrow(t *testing.T) {
	m := meta.New()
	mirror(t, m, "a")
	wide := merge(t, m, "b", "c", "d")
	mirror(t, m, "e")
	readyIs(t, m, every, nil, nil, nil)
	f := narrow(t, m, "f", 1, 0, 1, 2, 3)
	readyIs(t, m, every, nil, []int{f}, nil)
	sids := split(t, m, wide)
	readyIs(t, m, every, sids[:1], []int{f, sids[1]}, sids[2:])
	readyIs(t, m, of("c"), nil, sids[1:2], nil)
	applies(t, m, api.Rec{Kind: api.RMirror, Key: "b", Sid: m.Next(), Locs: on(0, 1, 2)}, api.Rec{Kind: api.RDel, Key: "f"})
	readyIs(t, m, every, nil, sids[1:2], sids[2:])
}

// Of a wide Stripe with dead parts only those that are not dead are split off.
func TestReadyOfWhatIsSplitOff(t *testing.T) {
	m := meta.New()
	wide := merge(t, m, "b", "c", "d")
	applies(t, m, api.Rec{Kind: api.RDel, Key: "b"}, api.Rec{Kind: api.RDel, Key: "c"})
	readyIs(t, m, every, nil, nil, nil)
	sids := split(t, m, wide)
	readyIs(t, m, every, nil, nil, sids[2:])
	readyIs(t, m, of("d"), nil, nil, sids[2:])
}

// Each narrow Stripe's key is asked, and no other one.
func TestReadyAsksKeys(t *testing.T) {
	m := meta.New()
	mirror(t, m, "a")
	merge(t, m, "b", "c", "d")
	narrow(t, m, "g", 2, 0, 1, 2, 3)
	narrow(t, m, "f", 0, 0, 1, 2, 3)
	narrow(t, m, strings.Repeat("~", 16), 0, 0, 1, 2, 3)
	for _, answer := range []bool{false, true} {
		var asked []string
		group.Ready(m, func(key string) bool { asked = append(asked, key); return answer })
		slices.Sort(asked)
		if asked = slices.Compact(asked); !slices.Equal(asked, []string{"f", "g", strings.Repeat("~", 16)}) {
			t.Errorf("asked %q", asked)
		}
	}
}

func TestReadyIsNew(t *testing.T) {
	m := meta.New()
	var want [3][]int
	for i := range 15 {
		want[i%3] = append(want[i%3], narrow(t, m, string(rune('a'+i)), i%3, 0, 1, 2, 3))
	}
	first, second := group.Ready(m, every), group.Ready(m, every)
	for c := range 3 {
		l := first[c][:cap(first[c])]
		for i := range l {
			l[i] = -1
		}
		for other := c + 1; other < 3; other++ {
			if !slices.Equal(first[other], want[other]) {
				t.Fatalf("row %d lies where row %d does", other, c)
			}
		}
	}
	readyIs(t, m, every, want[:]...)
	if fmt.Sprint(second) != fmt.Sprint(want) {
		t.Errorf("what was told is %v now", second)
	}
}

// Promise 18.1: Pick.

func TestPickOfEachColour(t *testing.T) {
	m := meta.New()
	pickIsNone(t, m, every)
	c := narrow(t, m, "a", 2, 0, 1, 2, 3)
	pickIsNone(t, m, every)
	b := narrow(t, m, "b", 1, 4, 5, 6, 7)
	pickIsNone(t, m, every)
	narrow(t, m, "c", 1, 8, 9, 10, 11)
	pickIsNone(t, m, every)
	a := narrow(t, m, "d", 0, 8, 9, 10, 11)
	pickIs(t, m, every, a, b, c) // by Colours, whichever Sid is the least
	pickIsNone(t, m, nil)
	pickIsNone(t, m, of())
	pickIsNone(t, m, but("a"))
	pickIsNone(t, m, but("b"))
	pickIsNone(t, m, but("d"))
	pickIs(t, m, but("c"), a, b, c)
}

// The first one's Sid counts ahead of the second one's, and that ahead of the third one's.
func TestPickIsFirst(t *testing.T) {
	m := meta.New()
	a := narrow(t, m, "a", 0, 0, 1, 2, 3)
	d := narrow(t, m, "d", 0, 12, 13, 14, 15)
	b := narrow(t, m, "b", 1, 2, 4, 5, 6)
	e := narrow(t, m, "e", 1, 7, 4, 5, 6)
	c := narrow(t, m, "c", 2, 8, 9, 10, 7)
	f := narrow(t, m, "f", 2, 8, 9, 10, 11)
	g := narrow(t, m, "g", 2, 16, 17, 18, 19)
	pickIs(t, m, every, a, e, f) // not d, b, c: a is ahead of d
	pickIs(t, m, but("f"), a, e, g)
	pickIs(t, m, but("a"), d, b, c)
	pickIs(t, m, but("a", "c"), d, b, f)
	pickIs(t, m, but("a", "b"), d, e, f)
	pickIs(t, m, but("e"), d, b, c)
	pickIs(t, m, but("f", "g"), d, b, c)
	pickIsNone(t, m, of("a", "e", "c"))
	pickIsNone(t, m, of("a", "b", "c", "f", "g"))
}

// Each two that have one disk alike are not merged; who has one twice by itself is not, either.
func TestPickIsUnlike(t *testing.T) {
	for i := range 12 {
		for j := range i + 1 {
			m := meta.New()
			disks := upTo(12)
			disks[i] = disks[j]
			var sids []int
			for c, l := range [][]int{disks[:4], disks[4:8], disks[8:]} {
				sids = append(sids, narrow(t, m, string(rune('a'+c)), c, l...))
			}
			if i == j {
				pickIs(t, m, every, sids...)
			} else {
				pickIsNone(t, m, every)
			}
		}
	}
}

// Parities are kept nowhere once their Stripe is merged: they may lie where they will.
func TestPickPassesParities(t *testing.T) {
	m := meta.New()
	var sids []int
	for c := range 3 {
		sids = append(sids, narrow(t, m, string(rune('a'+c)), c, from(4*c, 4)...))
	}
	for c, disks := range [][]int{{4, 8}, {5, 5}, {0, 9}} {
		for i, l := range on(disks...) {
			applies(t, m, api.Rec{Kind: api.RMove, Sid: sids[c], N: 4 + i, Locs: []api.Loc{l}})
		}
	}
	pickIs(t, m, every, sids...)
	applies(t, m, api.Rec{Kind: api.RMove, Sid: sids[0], N: 3, Locs: on(4)})
	pickIsNone(t, m, every) // a chunk of data was moved
}

func TestPickIsOfNarrow(t *testing.T) {
	m := meta.New()
	wide := merge(t, m, "a", "b", "c")
	mirror(t, m, "d")
	pickIsNone(t, m, every)
	sids := split(t, m, wide)
	pickIs(t, m, every, sids...)
	applies(t, m, api.Rec{Kind: api.RMirror, Key: "b", Sid: m.Next(), Locs: on(0, 1, 2)})
	pickIsNone(t, m, every)
}

// Held against the chapter's words, of what is known that looks mixed.
func TestMixed(t *testing.T) {
	var mix mixer
	picked, none := 0, 0
	for round := range 600 {
		m := mixed(t, &mix, 1+mix.below(90), 12+mix.below(13))
		was := told(m)
		mask := mix.below(1<<20) | mix.below(1<<20)
		some := func(key string) bool { return mask>>(key[0]-'a')&1 == 1 }
		for _, want := range []func(string) bool{every, some} {
			l := ready(m, want)
			readyIs(t, m, want, l[:]...)
			if sids, ok := pick(m, want); ok {
				pickIs(t, m, want, sids[:]...)
				picked++
			} else {
				pickIsNone(t, m, want)
				none++
			}
		}
		order := colour(m)
		colourIs(t, m, order[:]...)
		if is := told(m); is != was {
			t.Fatalf("round %d: made\n%s of\n%s", round, is, was)
		}
	}
	if picked < 100 || none < 100 {
		t.Errorf("%d were picked, %d not: that tells little", picked, none)
	}
}

// Promise 18.1: Colour.

func TestColourOfEmpty(t *testing.T) {
	colourIs(t, meta.New(), 0, 1, 2)
}

func TestColourOfAllCounts(t *testing.T) {
	orders := map[[3]int]int{}
	for code := range 64 {
		m := meta.New()
		for c := range 3 {
			for i := range code >> (2 * c) & 3 {
				narrow(t, m, fmt.Sprint(c, "-", i), c, 0, 1, 2, 3)
			}
		}
		want := colour(m)
		colourIs(t, m, want[:]...)
		orders[want]++
	}
	if len(orders) != 6 {
		t.Errorf("orders: %v", orders)
	}
}

// Who is mirrored, merged or gone does not count; who is split off does.
func TestColourIsOfNarrow(t *testing.T) {
	m := meta.New()
	for i := range 5 {
		mirror(t, m, string(rune('A'+i)))
	}
	colourIs(t, m, 0, 1, 2)
	wide := merge(t, m, "a", "b", "c")
	merge(t, m, "d", "e", "f")
	colourIs(t, m, 0, 1, 2)
	applies(t, m, api.Rec{Kind: api.RDel, Key: "b"})
	split(t, m, wide)
	colourIs(t, m, 1, 0, 2)
	applies(t, m, api.Rec{Kind: api.RMirror, Key: "c", Sid: m.Next(), Locs: on(0, 1, 2)})
	colourIs(t, m, 1, 2, 0)
	narrow(t, m, "g", 1, 0, 0, 0, 0) // one that no others are unlike counts, too
	colourIs(t, m, 2, 0, 1)
	applies(t, m, api.Rec{Kind: api.RDel, Key: "a"})
	colourIs(t, m, 0, 2, 1)
}

// Promise 18.2: what is merged lies on unlike disks.

func TestMergedLiesOnUnlikeDisks(t *testing.T) {
	var mix mixer
	merged := 0
	for range 400 {
		m := mixed(t, &mix, 90, 14+mix.below(11))
		for {
			sids, ok := group.Pick(m, every)
			if !ok {
				break
			}
			want := slices.Concat(four(m, sids[0]), four(m, sids[1]), four(m, sids[2]))
			r := mergeOf(m, sids)
			applies(t, m, r) // three that are there, of Colours 0, 1, 2
			wide, _ := m.Stripe(r.Sid)
			if got := group.Data(wide); !slices.Equal(got, want) || len(got) != 12 || alike(got) {
				t.Fatalf("%v are merged on %v, want %v", sids, got, want)
			}
			merged++
		}
	}
	if merged < 100 {
		t.Errorf("%d were merged: that tells little", merged)
	}
}

// Blobs that are laid out by Colour find partners: of each Colour disks that no other has.
func TestColourFindsPartners(t *testing.T) {
	m := meta.New()
	for i := range 30 {
		c := group.Colour(m)[0]
		narrow(t, m, fmt.Sprint(i), c, c, c+3, c+6, c+9)
		if sids, ok := group.Pick(m, every); ok != (i%3 == 2) {
			t.Fatalf("Pick behind %d = %v, %v", i+1, sids, ok)
		} else if ok {
			applies(t, m, mergeOf(m, sids))
		}
	}
}

// Promise 18.3: every call ends and none panics.

// Where many threes may be, and none is unlike, each of these calls ends all the same.
func TestManyOfWhichNoneAreUnlike(t *testing.T) {
	for _, third := range [][]int{{0, 8, 9, 10}, {4, 8, 9, 10}, {8, 9, 8, 10}} {
		m := meta.New()
		for i := range 100 {
			narrow(t, m, fmt.Sprint("a", i), 0, 0, 1, 2, 3)
			narrow(t, m, fmt.Sprint("b", i), 1, 4, 5, 6, 7)
			narrow(t, m, fmt.Sprint("c", i), 2, third...)
		}
		pickIsNone(t, m, every)
		a, b := m.Sids()[0], m.Sids()[1]
		pickIs(t, m, every, a, b, narrow(t, m, "d", 2, 11, 12, 13, 14))
		colourIs(t, m, 0, 1, 2)
	}
}

// What is wanted may change from key to key, and be asked of the same Meta.
func TestWantsThatAsk(t *testing.T) {
	m := meta.New()
	for c := range 3 {
		for i := range 4 {
			narrow(t, m, fmt.Sprint(c, "-", i), c, from(4*c, 4)...)
		}
	}
	asked := 0
	fickle := func(string) bool { asked++; return asked%2 == 0 }
	for range 9 {
		group.Ready(m, fickle)
		if sids, ok := group.Pick(m, fickle); !ok && sids != [3]int{} {
			t.Errorf("Pick = %v, false", sids)
		}
	}
	partners := func(key string) bool {
		_, ok := group.Pick(m, but(key))
		return ok && group.Colour(m) == [3]int{0, 1, 2}
	}
	readyIs(t, m, partners, ready(m, every)[0], ready(m, every)[1], ready(m, every)[2])
}
