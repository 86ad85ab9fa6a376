package jobs_test

import (
	"fmt"
	"math"
	"slices"
	"strings"
	"testing"

	"hypocaust/api"
	"hypocaust/group"
	"hypocaust/jobs"
	"hypocaust/meta"
	"hypocaust/tier"
)

// mixer tells numbers that look mixed, the same ones each time.
type mixer uint64

func (m *mixer) below(n int) int {
	*m = *m*6364136223846793005 + 1442695040888963407
	return int(uint64(*m) >> 33 % uint64(n))
}

// disks tells n disks of 0 to below-1, each once.
func (m *mixer) disks(n, below int) []int {
	all := from(0, below)
	for i := range n {
		at := i + m.below(below-i)
		all[i], all[at] = all[at], all[i]
	}
	return all[:n]
}

// strange are numbers that are no kinds, each once.
func strange() []int {
	return []int{math.MinInt, math.MinInt + 1, -1 << 32, math.MinInt32, -3, -2, -1, 0, 4, 5, 6, 7, 255, 256, 257, 258, 259, 1 << 16, math.MaxInt32, 1 << 32, 1<<32 + 1, 1<<32 + 2, 1<<32 + 3, 1<<32 + 4, math.MaxInt - 1, math.MaxInt}
}

// from tells n disks, the first of them and those behind it.
func from(first, n int) []int {
	l := make([]int, n)
	for i := range l {
		l[i] = first + i
	}
	return l
}

// ofClass tells six disks of those that one Colour has for itself, of 24.
func ofClass(mix *mixer, colour int) []int {
	l := mix.disks(6, 8)
	for i := range l {
		l[i] = 3*l[i] + colour
	}
	return l
}

// on tells Locs on these disks.
func on(disks ...int) []api.Loc {
	var l []api.Loc
	for i, d := range disks {
		l = append(l, api.Loc{Disk: d, Slot: i, ID: i + 1})
	}
	return l
}

// applies Applies records that are all OK.
func applies(t *testing.T, m *meta.Meta, recs ...api.Rec) {
	t.Helper()
	for _, r := range recs {
		if e := m.Apply(r); e != api.OK {
			t.Fatalf("Apply(%v) = %v", r, e)
		}
	}
}

// deletes makes these blobs unknown.
func deletes(t *testing.T, m *meta.Meta, keys ...string) {
	t.Helper()
	for _, key := range keys {
		applies(t, m, api.Rec{Kind: api.RDel, Key: key})
	}
}

// mirror makes a new blob known, mirrored, and tells its Sid.
func mirror(t *testing.T, m *meta.Meta, key string) int {
	t.Helper()
	sid := m.Next()
	applies(t, m, api.Rec{Kind: api.RPut, Key: key, N: 1, Sid: sid, Locs: on(0, 1, 2)})
	return sid
}

// narrow makes a new blob known, as a narrow Stripe whose data lie on these four disks and its parities on 20 and 21, and tells its Sid.
func narrow(t *testing.T, m *meta.Meta, key string, colour int, disks ...int) int {
	t.Helper()
	sid := mirror(t, m, key) + 1
	applies(t, m, api.Rec{Kind: api.RNarrow, Key: key, Sid: sid, Colour: colour, Locs: on(append(slices.Clone(disks), 20, 21)...)})
	return sid
}

// narrows makes three new blobs known, that may be merged, and tells their Sids.
func narrows(t *testing.T, m *meta.Meta, keys ...string) [3]int {
	t.Helper()
	var sids [3]int
	for colour, key := range keys {
		sids[colour] = narrow(t, m, key, colour, from(4*colour, 4)...)
	}
	return sids
}

// wide makes three new blobs known, merged, and tells the Sid.
func wide(t *testing.T, m *meta.Meta, keys ...string) int {
	t.Helper()
	return merge(t, m, narrows(t, m, keys...))
}

// merge merges these, parities on 16 to 19, and tells the Sid.
func merge(t *testing.T, m *meta.Meta, sids [3]int) int {
	t.Helper()
	sid := m.Next()
	applies(t, m, api.Rec{Kind: api.RMerge, Sid: sid, Sids: sids[:], Locs: on(16, 17, 18, 19)})
	return sid
}

// split splits a wide Stripe, parities on 22 and 23.
func split(t *testing.T, m *meta.Meta, sid int) {
	t.Helper()
	s, _ := m.Stripe(sid)
	r := api.Rec{Kind: api.RSplit, Sid: sid, Sids: make([]int, 3)}
	next := m.Next()
	for part, key := range s.Keys {
		if key != "" {
			r.Sids[part] = next
			r.Locs = append(r.Locs, on(22, 23)...)
			next++
		}
	}
	applies(t, m, r)
}

// kindOf tells the Kind of the Stripe that key's blob is in.
func kindOf(m *meta.Meta, key string) int {
	b, _ := m.Blob(key)
	s, _ := m.Stripe(b.Sid)
	return s.Kind
}

// all tells one target of all keys.
func all(target int) func(string, int) int {
	return func(string, int) int { return target }
}

// stay tells of each key the kind that it is of.
func stay(_ string, kind int) int { return kind }

// but tells another target of one key; all others stay.
func but(key string, target int) func(string, int) int {
	return func(k string, kind int) int {
		if k == key {
			return target
		}
		return kind
	}
}

// in tells targets by keys; all others stay.
func in(targets map[string]int) func(string, int) int {
	return func(key string, kind int) int {
		if target, ok := targets[key]; ok {
			return target
		}
		return kind
	}
}

func toSplit(sid int) api.Job      { return api.Job{Kind: api.JSplit, Sid: sid} }
func toPromote(key string) api.Job { return api.Job{Kind: api.JPromote, Key: key} }
func toDemote(key string) api.Job  { return api.Job{Kind: api.JDemote, Key: key} }
func toMerge(sids [3]int) api.Job  { return api.Job{Kind: api.JMerge, Sids: sids} }

// allIs tells whether All tells just these.
func allIs(t *testing.T, m *meta.Meta, target func(string, int) int, want ...api.Job) {
	t.Helper()
	if got := jobs.All(m, target); !slices.Equal(got, want) {
		t.Fatalf("All = %+v, want %+v", got, want)
	}
}

// costs tells whether that job costs so much, and is Ok, if that is not 0.
func costs(t *testing.T, m *meta.Meta, j api.Job, want int) {
	t.Helper()
	if got := jobs.Cost(m, j); got != want {
		t.Fatalf("Cost of %+v = %d, want %d", j, got, want)
	}
	if ok := jobs.Ok(m, j); ok != (want > 0) {
		t.Fatalf("Ok of %+v = %v, want %v", j, ok, want > 0)
	}
}

// told tells all that a Meta tells.
func told(m *meta.Meta) string {
	var s strings.Builder
	for _, sid := range m.Sids() {
		x, _ := m.Stripe(sid)
		fmt.Fprintf(&s, "%d %v\n", sid, x)
	}
	for _, key := range m.Keys() {
		b, _ := m.Blob(key)
		fmt.Fprintf(&s, "%q %v\n", key, b)
	}
	fmt.Fprintf(&s, "%d %v\n", m.Next(), m.Table())
	return s.String()
}

// fit tells whether three Stripes are narrow, of Colours 0, 1, 2, no two of their twelve data chunks on one disk.
func fit(m *meta.Meta, sids [3]int) bool {
	disks := map[int]int{}
	for colour, sid := range sids {
		s, ok := m.Stripe(sid)
		if !ok || s.Kind != api.KNarrow || s.Colour != colour {
			return false
		}
		for i := range 4 {
			disks[s.Locs[i].Disk]++
		}
	}
	return len(disks) == 12
}

// threes tells all threes of Sids that fit, of keys that are wanted, the least first.
func threes(m *meta.Meta, want func(key string) bool) [][3]int {
	var of [3][]int
	for _, sid := range m.Sids() {
		if s, _ := m.Stripe(sid); s.Kind == api.KNarrow && want(s.Keys[0]) {
			of[s.Colour] = append(of[s.Colour], sid)
		}
	}
	var l [][3]int
	for _, a := range of[0] {
		for _, b := range of[1] {
			for _, c := range of[2] {
				if three := [3]int{a, b, c}; fit(m, three) {
					l = append(l, three)
				}
			}
		}
	}
	return l
}

// every wants every key.
func every(string) bool { return true }

// may tells all jobs that are Ok, and what each costs, as the chapter words it.
func may(m *meta.Meta) map[api.Job]int {
	l := map[api.Job]int{}
	for _, key := range m.Keys() {
		b, _ := m.Blob(key)
		switch kindOf(m, key) {
		case api.KMirror:
			l[toDemote(key)] = 7
		case api.KNarrow:
			l[toPromote(key)] = 7
		case api.KWide:
			l[toSplit(b.Sid)] += 6 // who is dead has no key
		}
	}
	for _, three := range threes(m, every) {
		l[toMerge(three)] = 22
	}
	return l
}

// should tells the jobs there are, as the chapter words it: kind by kind, each ordered at the end.
func should(m *meta.Meta, target func(string, int) int) []api.Job {
	var splits, promotes, demotes []api.Job
	alive := map[int]int{}
	leave := map[int]int{}
	for _, key := range m.Keys() {
		b, _ := m.Blob(key)
		kind := kindOf(m, key)
		to := target(key, kind)
		switch {
		case kind == api.KWide && to == api.KWide:
			alive[b.Sid]++
		case kind == api.KWide:
			leave[b.Sid]++
		case kind == api.KNarrow && to == api.KMirror:
			promotes = append(promotes, toPromote(key))
		case kind == api.KMirror && to != api.KMirror:
			demotes = append(demotes, toDemote(key))
		}
	}
	for sid := range m.Next() {
		if leave[sid] > 0 || alive[sid] == 1 || alive[sid] == 2 {
			splits = append(splits, toSplit(sid))
		}
	}
	l := slices.Concat(splits, promotes, demotes)
	if cold := threes(m, func(key string) bool { return target(key, api.KNarrow) == api.KWide }); len(cold) > 0 {
		l = append(l, toMerge(cold[0]))
	}
	return l
}

// mixed makes a Meta by records that look mixed. Many narrow Stripes of unlike Colours lie on unlike disks, some do not.
func mixed(t *testing.T, mix *mixer, records int) *meta.Meta {
	t.Helper()
	m := meta.New()
	for range records {
		key := string(rune('a' + mix.below(24)))
		colour := mix.below(3)
		six := on(ofClass(mix, colour)...)
		if mix.below(4) == 0 {
			six = on(mix.disks(6, 24)...)
		}
		b, known := m.Blob(key)
		kind := kindOf(m, key)
		switch {
		case !known:
			mirror(t, m, key)
		case mix.below(10) == 0:
			deletes(t, m, key)
		case kind == api.KMirror && mix.below(4) > 0:
			applies(t, m, api.Rec{Kind: api.RNarrow, Key: key, Sid: m.Next(), Colour: colour, Locs: six})
		case kind == api.KNarrow && mix.below(8) == 0:
			applies(t, m, api.Rec{Kind: api.RMirror, Key: key, Sid: m.Next(), Locs: six[:3]})
		case kind == api.KNarrow && mix.below(4) == 0:
			applies(t, m, api.Rec{Kind: api.RMove, Sid: b.Sid, N: mix.below(6), Locs: on(mix.below(24))})
		case kind == api.KWide && mix.below(6) == 0:
			split(t, m, b.Sid)
		}
		if l := threes(m, every); len(l) > 0 && mix.below(6) == 0 {
			merge(t, m, l[mix.below(len(l))])
		}
	}
	return m
}

// Promise 19.1: All.

func TestAllOfEmpty(t *testing.T) {
	m := meta.New()
	for _, target := range []int{0, api.KMirror, api.KNarrow, api.KWide} {
		allIs(t, m, all(target))
	}
	allIs(t, m, nil)
	applies(t, m, api.Rec{Kind: api.RTable, Table: api.Table{Hot: 1}})
	mirror(t, m, "a")
	deletes(t, m, "a")
	allIs(t, m, all(api.KWide))
}

func TestAllOfNilTarget(t *testing.T) {
	m := meta.New()
	mirror(t, m, "a")
	narrows(t, m, "b", "c", "d")
	wide(t, m, "e", "f", "g")
	deletes(t, m, "f")
	allIs(t, m, nil)
}

// By kind first, whichever key or Sid is the least.
func TestAllInOrder(t *testing.T) {
	m := meta.New()
	sids := narrows(t, m, "g", "f", "e")
	narrow(t, m, "d", 0, 0, 1, 2, 3)
	narrow(t, m, "b", 0, 0, 1, 2, 3)
	mirror(t, m, "c")
	mirror(t, m, "a")
	w := wide(t, m, "z", "y", "x")
	v := wide(t, m, "k", "j", "i")
	targets := map[string]int{"a": api.KNarrow, "b": api.KMirror, "c": api.KWide, "d": api.KMirror, "e": api.KWide, "f": api.KWide, "g": api.KWide, "i": api.KNarrow, "x": api.KMirror}
	allIs(t, m, in(targets), toSplit(w), toSplit(v), toPromote("b"), toPromote("d"), toDemote("a"), toDemote("c"), toMerge(sids))
	allIs(t, m, stay)
	targets = map[string]int{"a": api.KNarrow, "d": api.KMirror, "e": api.KMirror, "f": api.KWide, "g": api.KWide, "j": 0}
	allIs(t, m, in(targets), toSplit(v), toPromote("d"), toPromote("e"), toDemote("a"))
}

// Who stays has no job, whatever it is of.
func TestAllOfWhoStays(t *testing.T) {
	m := meta.New()
	mirror(t, m, "a")
	narrows(t, m, "b", "c", "d")
	wide(t, m, "e", "f", "g")
	allIs(t, m, stay)
}

// Each part may be the one that leaves, to wherever it will.
func TestSplitOfWhoLeaves(t *testing.T) {
	m := meta.New()
	wide(t, m, "a", "b", "c")
	w := wide(t, m, "d", "e", "f")
	for _, key := range []string{"d", "e", "f"} {
		for _, target := range append(strange(), api.KMirror, api.KNarrow) {
			allIs(t, m, but(key, target), toSplit(w))
		}
		allIs(t, m, but(key, api.KWide))
	}
}

func TestSplitOfDeadParts(t *testing.T) {
	for mask := range 8 {
		m := meta.New()
		w := wide(t, m, "a", "b", "c")
		wide(t, m, "d", "e", "f")
		for part, key := range []string{"a", "b", "c"} {
			if mask>>part&1 == 1 {
				deletes(t, m, key)
			}
		}
		if mask == 0 || mask == 7 { // none is dead, or the Stripe is gone
			allIs(t, m, all(api.KWide))
		} else {
			allIs(t, m, all(api.KWide), toSplit(w))
			allIs(t, m, stay, toSplit(w))
		}
	}
}

// By Sid, each once, whichever keys they have, and however many of them leave.
func TestSplitBySid(t *testing.T) {
	m := meta.New()
	var want []api.Job
	for i := range 8 {
		base := 'z' - 3*i
		want = append(want, toSplit(wide(t, m, string(rune(base)), string(rune(base-1)), string(rune(base-2)))))
	}
	allIs(t, m, all(api.KNarrow), want...)
	allIs(t, m, all(api.KWide))
	deletes(t, m, "z", "x")
	allIs(t, m, all(api.KNarrow), want...)
	allIs(t, m, all(api.KWide), want[0])
	deletes(t, m, "y")
	allIs(t, m, all(api.KMirror), want[1:]...)
}

// Only who is wanted mirrored is promoted.
func TestPromote(t *testing.T) {
	m := meta.New()
	narrow(t, m, "a", 0, 0, 1, 2, 3)
	narrow(t, m, "b", 0, 0, 1, 2, 3)
	allIs(t, m, but("a", api.KMirror), toPromote("a"))
	allIs(t, m, but("b", api.KMirror), toPromote("b"))
	for _, target := range append(strange(), api.KNarrow, api.KWide) {
		allIs(t, m, but("a", target))
	}
}

// Who is mirrored and is wanted otherwise, however that is, is demoted.
func TestDemote(t *testing.T) {
	m := meta.New()
	mirror(t, m, "a")
	mirror(t, m, "b")
	for _, target := range append(strange(), api.KNarrow, api.KWide) {
		allIs(t, m, but("a", target), toDemote("a"))
		allIs(t, m, but("b", target), toDemote("b"))
	}
	allIs(t, m, all(api.KMirror))
}

// By bytes, whichever Sid is the least.
func TestKeysByBytes(t *testing.T) {
	keys := []string{"b", "~", "aa", "!", "Z", "a", strings.Repeat("a", 16), "ab", "10", "9", "a!"}
	sorted := slices.Sorted(slices.Values(keys))
	mirrors, narrows := meta.New(), meta.New()
	for _, key := range keys {
		mirror(t, mirrors, key)
		narrow(t, narrows, key, 2, 0, 1, 2, 3)
	}
	var demotes, promotes []api.Job
	for _, key := range sorted {
		demotes = append(demotes, toDemote(key))
		promotes = append(promotes, toPromote(key))
	}
	allIs(t, mirrors, all(api.KNarrow), demotes...)
	allIs(t, narrows, all(api.KMirror), promotes...)
}

// Only who is wanted wide is merged.
func TestMergeOfWhoIsCold(t *testing.T) {
	m := meta.New()
	sids := narrows(t, m, "a", "b", "c")
	allIs(t, m, all(api.KWide), toMerge(sids))
	for _, key := range m.Keys() {
		for _, target := range append(strange(), api.KNarrow) {
			cold := func(k string, kind int) int { return but(key, target)(k, api.KWide) }
			allIs(t, m, cold)
		}
		warm := func(k string, kind int) int { return but(key, api.KMirror)(k, api.KWide) }
		allIs(t, m, warm, toPromote(key))
	}
}

// There is one at most: the first that group tells, whose data are unlike.
func TestMergeOfOneThree(t *testing.T) {
	m := meta.New()
	first := narrows(t, m, "z", "y", "x")
	second := narrows(t, m, "c", "b", "a")
	allIs(t, m, all(api.KWide), toMerge(first))
	targets := map[string]int{"a": api.KWide, "b": api.KWide, "c": api.KWide, "x": api.KWide, "y": api.KNarrow, "z": api.KWide}
	allIs(t, m, in(targets), toMerge([3]int{first[0], second[1], first[2]}))
	applies(t, m, api.Rec{Kind: api.RMove, Sid: first[2], N: 1, Locs: on(0)})
	allIs(t, m, all(api.KWide), toMerge([3]int{first[0], first[1], second[2]}))
	applies(t, m, api.Rec{Kind: api.RMove, Sid: second[2], N: 3, Locs: on(7)})
	allIs(t, m, all(api.KWide)) // x has a disk of both z and c, a one of both y and b
}

// Who is wide already, or mirrored, is nobody's partner.
func TestMergeOfNarrow(t *testing.T) {
	m := meta.New()
	wide(t, m, "a", "b", "c")
	narrow(t, m, "d", 0, 0, 1, 2, 3)
	narrow(t, m, "e", 1, 4, 5, 6, 7)
	mirror(t, m, "f")
	allIs(t, m, all(api.KWide), toDemote("f"))
}

// Each key is asked for with its Stripe's Kind, and no dead part is.
func TestTargetIsTold(t *testing.T) {
	m := meta.New()
	kinds := map[string]int{}
	tell := func(kind int, keys ...string) {
		for _, key := range keys {
			kinds[key] = kind
		}
	}
	tell(api.KMirror, "m", "n")
	mirror(t, m, "m")
	mirror(t, m, "n")
	tell(api.KNarrow, "b", "c", "d", "k")
	narrows(t, m, "b", "c", "d")
	narrow(t, m, "k", 1, 0, 1, 2, 3)
	tell(api.KWide, "e", "f", "g", "h", "i")
	wide(t, m, "e", "f", "g")
	wide(t, m, "h", "i", "j")
	wide(t, m, "o", "p", "q")
	deletes(t, m, "j", "o", "p")
	tell(api.KWide, "q")
	for _, answer := range []int{-1, api.KMirror, api.KNarrow, api.KWide} {
		asked := map[string]int{}
		jobs.All(m, func(key string, kind int) int {
			if want, ok := kinds[key]; !ok || kind != want {
				t.Errorf("target was told %q, %d, want %d", key, kind, want)
			}
			asked[key] = kind
			return answer
		})
		for key, kind := range kinds {
			if kind != api.KWide && asked[key] != kind {
				t.Errorf("target was not told %q", key)
			}
		}
	}
}

// What hangs on the kind that a key is of, is asked of that kind.
func TestTargetsOfTheKind(t *testing.T) {
	m := meta.New()
	mirror(t, m, "a")
	sids := narrows(t, m, "b", "c", "d")
	w := wide(t, m, "e", "f", "g")
	to := func(mirror, narrow, wide int) func(string, int) int {
		return func(_ string, kind int) int { return [...]int{0, mirror, narrow, wide}[kind] }
	}
	for mirror := range 5 {
		for narrow := range 5 {
			for wide := range 5 {
				var want []api.Job
				if wide != api.KWide {
					want = append(want, toSplit(w))
				}
				if narrow == api.KMirror {
					want = append(want, toPromote("b"), toPromote("c"), toPromote("d"))
				}
				if mirror != api.KMirror {
					want = append(want, toDemote("a"))
				}
				if narrow == api.KWide {
					want = append(want, toMerge(sids))
				}
				allIs(t, m, to(mirror, narrow, wide), want...)
			}
		}
	}
}

func TestAllIsNew(t *testing.T) {
	m := meta.New()
	mirror(t, m, "a")
	mirror(t, m, "b")
	sids := narrows(t, m, "c", "d", "e")
	w := wide(t, m, "f", "g", "h")
	want := []api.Job{toSplit(w), toDemote("a"), toDemote("b"), toMerge(sids)}
	target := in(map[string]int{"a": api.KWide, "b": api.KNarrow, "c": api.KWide, "d": api.KWide, "e": api.KWide, "h": api.KNarrow})
	first, second := jobs.All(m, target), jobs.All(m, target)
	first = first[:cap(first)]
	for i := range first {
		first[i] = api.Job{Kind: 9, Key: "x", Sid: 9, Sids: [3]int{9, 9, 9}}
	}
	if !slices.Equal(second, want) {
		t.Errorf("what was told is %+v now, want %+v", second, want)
	}
	allIs(t, m, target, want...)
}

// Promise 19.1: Ok and Cost.

func TestCostOfEachKind(t *testing.T) {
	m := meta.New()
	mirror(t, m, "a")
	sids := narrows(t, m, "b", "c", "d")
	w := wide(t, m, "e", "f", "g")
	costs(t, m, toDemote("a"), 7)
	costs(t, m, toPromote("b"), 7)
	costs(t, m, toPromote("d"), 7)
	costs(t, m, toMerge(sids), 22)
	costs(t, m, toSplit(w), 18)
	costs(t, m, api.Job{}, 0)
}

func TestCostOfDeadParts(t *testing.T) {
	for mask := range 8 {
		m := meta.New()
		w := wide(t, m, "a", "b", "c")
		want := 18
		for part, key := range []string{"a", "b", "c"} {
			if mask>>part&1 == 1 {
				deletes(t, m, key)
				want -= 6
			}
		}
		costs(t, m, toSplit(w), want) // of none that is not dead: 0, for it is gone
	}
}

// Each is Ok of just the kind that it begins with.
func TestOkOfTheKind(t *testing.T) {
	m := meta.New()
	a := mirror(t, m, "a")
	b := narrow(t, m, "b", 0, 0, 1, 2, 3)
	w := wide(t, m, "c", "d", "e")
	for key, kind := range map[string]int{"a": api.KMirror, "b": api.KNarrow, "c": api.KWide, "d": api.KWide, "e": api.KWide, "f": 0, "": 0} {
		if ok := jobs.Ok(m, toPromote(key)); ok != (kind == api.KNarrow) {
			t.Errorf("Ok of promoting %q = %v", key, ok)
		}
		if ok := jobs.Ok(m, toDemote(key)); ok != (kind == api.KMirror) {
			t.Errorf("Ok of demoting %q = %v", key, ok)
		}
	}
	for _, sid := range append(strange(), from(-1, w+9)...) {
		if ok := jobs.Ok(m, toSplit(sid)); ok != (sid == w) {
			t.Errorf("Ok of splitting %d = %v, of %d, %d, %d", sid, ok, a, b, w)
		}
	}
	costs(t, m, toPromote("b"), 7)
	applies(t, m, api.Rec{Kind: api.RMirror, Key: "b", Sid: m.Next(), Locs: on(0, 1, 2)})
	costs(t, m, toPromote("b"), 0)
	costs(t, m, toDemote("b"), 7)
	split(t, m, w)
	costs(t, m, toSplit(w), 0)
	costs(t, m, toPromote("d"), 7)
	deletes(t, m, "d")
	costs(t, m, toPromote("d"), 0)
}

// A dead part's key is no key, and is in no wide Stripe of which a job could be.
func TestOkOfNoKey(t *testing.T) {
	m := meta.New()
	w := wide(t, m, "a", "b", "c")
	deletes(t, m, "a")
	costs(t, m, toPromote(""), 0)
	costs(t, m, toDemote(""), 0)
	costs(t, m, toPromote("a"), 0)
	costs(t, m, toDemote("a"), 0)
	costs(t, m, toSplit(0), 0)
	costs(t, m, toMerge([3]int{}), 0)
	costs(t, m, toSplit(w), 12)
}

// Three Stripes are merged in the order of their Colours, each of another one.
func TestOkOfMerge(t *testing.T) {
	m := meta.New()
	a := mirror(t, m, "a")
	first := narrows(t, m, "b", "c", "d")
	second := narrows(t, m, "e", "f", "g")
	w := wide(t, m, "h", "i", "j")
	pool := append([]int{-1, 0, a, a + 1, w, w + 1, math.MaxInt, math.MinInt}, append(first[:], second[:]...)...)
	ok := 0
	for _, x := range pool {
		for _, y := range pool {
			for _, z := range pool {
				want := 0
				if slices.Contains([]int{first[0], second[0]}, x) && slices.Contains([]int{first[1], second[1]}, y) && slices.Contains([]int{first[2], second[2]}, z) {
					want = 22
					ok++
				}
				costs(t, m, toMerge([3]int{x, y, z}), want)
			}
		}
	}
	if ok != 8 {
		t.Errorf("%d were Ok, want 8", ok)
	}
}

// Each two data chunks on one disk are too many; parities may lie where they will.
func TestOkOfUnlike(t *testing.T) {
	for i := range 18 {
		for j := range i {
			m := meta.New()
			sids := narrows(t, m, "a", "b", "c")
			s, _ := m.Stripe(sids[j/6])
			applies(t, m, api.Rec{Kind: api.RMove, Sid: sids[i/6], N: i % 6, Locs: on(s.Locs[j%6].Disk)})
			if i%6 < 4 && j%6 < 4 {
				costs(t, m, toMerge(sids), 0)
				allIs(t, m, all(api.KWide))
			} else {
				costs(t, m, toMerge(sids), 22)
				allIs(t, m, all(api.KWide), toMerge(sids))
			}
		}
	}
}

// What a job does not name is its zero value.
func TestOkOfNothingElse(t *testing.T) {
	m := meta.New()
	mirror(t, m, "a")
	sids := narrows(t, m, "b", "c", "d")
	w := wide(t, m, "e", "f", "g")
	for j, cost := range map[api.Job]int{toSplit(w): 18, toPromote("b"): 7, toDemote("a"): 7, toMerge(sids): 22} {
		costs(t, m, j, cost)
		for _, key := range []string{"a", "b", "e", "x", "\x00"} {
			if other := j; j.Key == "" {
				other.Key = key
				costs(t, m, other, 0)
			}
		}
		for _, n := range append(strange(), sids[0], w) {
			if other := j; j.Sid == 0 && n != 0 {
				other.Sid = n
				costs(t, m, other, 0)
			}
			for at := range 3 {
				if other := j; j.Sids == [3]int{} && n != 0 {
					other.Sids[at] = n
					costs(t, m, other, 0)
				}
			}
		}
		if other := j; j.Sids == [3]int{} {
			other.Sids = sids
			costs(t, m, other, 0)
		}
		for _, kind := range strange() {
			if other := j; kind != api.JMerge {
				other.Kind = kind
				costs(t, m, other, 0)
			}
		}
		for kind := range 9 {
			if other := j; kind != j.Kind {
				other.Kind = kind
				costs(t, m, other, 0)
			}
		}
	}
}

// Of all that a job may say, just what may be done is Ok, and costs what its chunks are.
func TestOkOfAll(t *testing.T) {
	var mix mixer
	counts := map[int]int{}
	for range 100 {
		m := mixed(t, &mix, 1+mix.below(120))
		was := told(m)
		want := may(m)
		keys := append(m.Keys(), "", "A", "aa")
		for kind := range 6 {
			for _, key := range keys {
				for _, sid := range []int{0, 1, m.Next(), m.Next() - 1} {
					j := api.Job{Kind: kind, Key: key, Sid: sid}
					costs(t, m, j, want[j])
				}
			}
			for sid := range m.Next() + 2 {
				j := api.Job{Kind: kind, Sid: sid}
				costs(t, m, j, want[j])
			}
		}
		sids := append(m.Sids(), 0)
		for range 2000 {
			j := toMerge([3]int{sids[mix.below(len(sids))], sids[mix.below(len(sids))], sids[mix.below(len(sids))]})
			costs(t, m, j, want[j])
		}
		for j, cost := range want {
			costs(t, m, j, cost)
			counts[j.Kind]++
		}
		if is := told(m); is != was {
			t.Fatalf("made\n%s of\n%s", is, was)
		}
	}
	if len(counts) != 4 || counts[api.JSplit] < 100 || counts[api.JMerge] < 100 {
		t.Errorf("%v were Ok: that tells little", counts)
	}
}

// Held against the chapter's words, of what is known that looks mixed.
func TestMixed(t *testing.T) {
	var mix mixer
	counts := map[int]int{}
	for round := range 800 {
		m := mixed(t, &mix, 1+mix.below(120))
		was := told(m)
		targets := map[string]int{}
		for _, key := range m.Keys() {
			if mix.below(3) > 0 {
				targets[key] = mix.below(5)
			}
		}
		table := api.Table{Hot: 10, Warm: 5, Gap: 2}
		tiers := func(key string, kind int) int { return tier.Target(table, kind, int(key[0]+byte(round))%16) }
		for _, target := range []func(string, int) int{stay, all(api.KMirror), all(api.KNarrow), all(api.KWide), in(targets), tiers} {
			want := should(m, target)
			allIs(t, m, target, want...)
			for _, j := range want {
				counts[j.Kind]++
			}
		}
		if is := told(m); is != was {
			t.Fatalf("round %d: made\n%s of\n%s", round, is, was)
		}
	}
	for kind := api.JSplit; kind <= api.JMerge; kind++ {
		if counts[kind] < 200 {
			t.Errorf("jobs of each kind: %v: that tells little", counts)
		}
	}
}

// Promise 19.2: who is not where it belongs has a job, or lacks partners.

// hasJob tells whether one of these jobs is key's.
func hasJob(m *meta.Meta, l []api.Job, key string) bool {
	b, _ := m.Blob(key)
	return slices.ContainsFunc(l, func(j api.Job) bool {
		return j.Key == key || j.Sid == b.Sid || slices.Contains(j.Sids[:], b.Sid)
	})
}

func TestWhoHasAJob(t *testing.T) {
	var mix mixer
	waiting := 0
	for range 500 {
		m := mixed(t, &mix, 1+mix.below(120))
		targets := map[string]int{}
		for _, key := range m.Keys() {
			targets[key] = 1 + mix.below(3)
		}
		cold := func(key string) bool { return targets[key] == api.KWide }
		l := jobs.All(m, in(targets))
		mayMerge := slices.ContainsFunc(l, func(j api.Job) bool { return j.Kind == api.JMerge })
		if mayMerge != (len(threes(m, cold)) > 0) {
			t.Fatalf("All = %+v, of whose partners are %v", l, threes(m, cold))
		}
		for _, key := range m.Keys() {
			kind := kindOf(m, key)
			if kind == api.KNarrow && targets[key] == api.KWide {
				waiting++ // till others are merged, or for partners
			} else if kind != targets[key] && !hasJob(m, l, key) {
				t.Fatalf("%q of kind %d has no job of %+v, and belongs to %d", key, kind, l, targets[key])
			}
		}
	}
	if waiting < 300 {
		t.Errorf("%d were waiting: that tells little", waiting)
	}
}

// Each job that is told may be done, is told once, and is within a budget of 22 (W5).
func TestAllAreOk(t *testing.T) {
	var mix mixer
	for range 500 {
		m := mixed(t, &mix, 1+mix.below(120))
		for _, target := range []func(string, int) int{stay, all(api.KMirror), all(api.KNarrow), all(api.KWide), all(-1)} {
			seen := map[api.Job]int{}
			for _, j := range jobs.All(m, target) {
				if n := jobs.Cost(m, j); !jobs.Ok(m, j) || n < 1 || n > 22 {
					t.Fatalf("%+v is Ok: %v, and costs %d", j, jobs.Ok(m, j), n)
				}
				if seen[j]++; seen[j] > 1 {
					t.Fatalf("%+v is told twice", j)
				}
			}
		}
	}
}

// do does a job: its record is Applied; data of each Colour lie on eight disks of their own. It tells how many chunks are read and written.
func do(t *testing.T, mix *mixer, m *meta.Meta, j api.Job) int {
	t.Helper()
	b, _ := m.Blob(j.Key)
	before, _ := m.Stripe(b.Sid)
	switch j.Kind {
	case api.JSplit:
		before, _ = m.Stripe(j.Sid)
		split(t, m, j.Sid)
		parts := 0
		for _, key := range before.Keys {
			if after, ok := m.Blob(key); ok {
				s, _ := m.Stripe(after.Sid)
				parts += len(s.Locs) // four stay, and are read; two are new
			}
		}
		return parts
	case api.JPromote:
		r := api.Rec{Kind: api.RMirror, Key: j.Key, Sid: m.Next(), Locs: on(mix.disks(3, 24)...)}
		applies(t, m, r)
		return len(group.Data(before)) + len(r.Locs)
	case api.JDemote:
		colour := group.Colour(m)[0]
		r := api.Rec{Kind: api.RNarrow, Key: j.Key, Sid: m.Next(), Colour: colour, Locs: on(ofClass(mix, colour)...)}
		applies(t, m, r)
		return 1 + len(r.Locs)
	default:
		n := 4
		for _, sid := range j.Sids {
			s, _ := m.Stripe(sid)
			n += len(s.Locs)
		}
		merge(t, m, j.Sids)
		return n
	}
}

// Whoever does what All tells, in whatever order, comes to rest (W6): each blob is where it belongs, or narrow and without partners. Each job reads and writes as many chunks as it costs (W5).
func TestComesToRest(t *testing.T) {
	var mix mixer
	table := api.Table{Hot: 10, Warm: 5, Gap: 2}
	done := map[int]int{}
	for range 40 {
		m := meta.New()
		heats := map[string]int{}
		for range 8 {
			for range mix.below(10) {
				key := fmt.Sprint(mix.below(40))
				if _, ok := m.Blob(key); ok && mix.below(2) == 0 {
					deletes(t, m, key)
				} else {
					mirror(t, m, key)
				}
			}
			for range 12 {
				heats[fmt.Sprint(mix.below(40))] = mix.below(15)
			}
			target := func(key string, kind int) int { return tier.Target(table, kind, heats[key]) }
			rounds := 0
			for l := jobs.All(m, target); len(l) > 0; l = jobs.All(m, target) {
				j := l[mix.below(len(l))]
				if cost, n := jobs.Cost(m, j), do(t, &mix, m, j); cost != n {
					t.Fatalf("%+v costs %d, and reads and writes %d", j, cost, n)
				}
				done[j.Kind]++
				if rounds++; rounds > 400 {
					t.Fatalf("no rest: %+v", l)
				}
			}
			for _, key := range m.Keys() {
				kind := kindOf(m, key)
				if to := target(key, kind); to != kind && (kind != api.KNarrow || to != api.KWide) {
					t.Fatalf("%q is of kind %d at rest, and belongs to %d", key, kind, to)
				}
			}
			for _, sid := range m.Sids() {
				if s, _ := m.Stripe(sid); s.Kind == api.KWide && slices.Contains(s.Keys[:], "") {
					t.Fatalf("%d has dead parts at rest: %q", sid, s.Keys)
				}
			}
			if l := threes(m, func(key string) bool { return target(key, api.KNarrow) == api.KWide }); len(l) > 0 {
				t.Fatalf("partners at rest: %v", l)
			}
		}
	}
	for kind := api.JSplit; kind <= api.JMerge; kind++ {
		if done[kind] < 100 {
			t.Errorf("jobs that were done of each kind: %v: that tells little", done)
		}
	}
}

// Promise 19.3: every call ends and none panics.

func TestStrange(t *testing.T) {
	full := meta.New()
	mirror(t, full, "a")
	narrows(t, full, "b", "c", "d")
	wide(t, full, "e", "f", "g")
	keys := []string{"", "a", "b", "e", "\x00", "\xff\xfe", strings.Repeat("k", 17), strings.Repeat("\n", 100000)}
	numbers := append(strange(), 1, 2, 3)
	for _, m := range []*meta.Meta{meta.New(), full} {
		want := may(m)
		for _, kind := range numbers {
			for _, key := range keys {
				j := api.Job{Kind: kind, Key: key}
				costs(t, m, j, want[j])
			}
			for _, n := range numbers {
				j := api.Job{Kind: kind, Sid: n}
				costs(t, m, j, want[j])
				j = api.Job{Kind: kind, Sids: [3]int{n, 1, n}}
				costs(t, m, j, want[j])
			}
		}
		for _, target := range numbers {
			allIs(t, m, all(target), should(m, all(target))...)
		}
	}
}

// What a target asks of the same Meta is told, too.
func TestTargetsThatAsk(t *testing.T) {
	m := meta.New()
	mirror(t, m, "a")
	sids := narrows(t, m, "b", "c", "d")
	w := wide(t, m, "e", "f", "g")
	asks := func(key string, kind int) int {
		if len(jobs.All(m, stay)) == 0 && !jobs.Ok(m, toDemote(key)) && jobs.Cost(m, toSplit(w)) == 18 {
			return api.KWide
		}
		return kind
	}
	allIs(t, m, asks, toMerge(sids))
	asked := 0
	fickle := func(string, int) int { asked++; return asked % 4 }
	for range 50 {
		for _, j := range jobs.All(m, fickle) {
			if !jobs.Ok(m, j) {
				t.Errorf("%+v is not Ok", j)
			}
		}
	}
}

// Where there are very many, and no three are unlike, each call ends all the same.
func TestMany(t *testing.T) {
	m := meta.New()
	var promotes []api.Job
	for i := range 60 {
		narrow(t, m, fmt.Sprint("a", i), 0, 0, 1, 2, 3)
		narrow(t, m, fmt.Sprint("b", i), 1, 4, 5, 6, 7)
		narrow(t, m, fmt.Sprint("c", i), 2, 8, 9, 10, 4)
	}
	for _, key := range m.Keys() {
		promotes = append(promotes, toPromote(key))
	}
	allIs(t, m, all(api.KWide))
	allIs(t, m, all(api.KMirror), promotes...)
	var splits []api.Job
	for i := range 60 {
		splits = append(splits, toSplit(wide(t, m, fmt.Sprint("d", i), fmt.Sprint("e", i), fmt.Sprint("f", i))))
	}
	allIs(t, m, all(api.KNarrow), splits...)
}
