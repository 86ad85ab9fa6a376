package rec_test

import (
	"bytes"
	"encoding/binary"
	"encoding/hex"
	"math"
	"slices"
	"strings"
	"testing"

	"hypocaust/api"
	"hypocaust/rec"
)

// mixer tells numbers that look mixed, the same ones each time.
type mixer uint64

func (m *mixer) below(n int) int {
	*m = *m*6364136223846793005 + 1442695040888963407
	return int(uint64(*m) >> 33 % uint64(n))
}

func (m *mixer) bytes(n int) []byte {
	b := make([]byte, n)
	for i := range b {
		b[i] = byte(m.below(256))
	}
	return b
}

// upTo tells a number of least to most, the ends more often than others.
func (m *mixer) upTo(least, most int) int {
	switch m.below(6) {
	case 0:
		return least
	case 1:
		return most
	}
	return least + m.below(most-least+1)
}

// key tells a key of 1 to 16 bytes.
func (m *mixer) key() string {
	b := make([]byte, m.upTo(1, 16))
	for i := range b {
		b[i] = byte(m.upTo(33, 126))
	}
	return string(b)
}

// locs tells n Locs.
func (m *mixer) locs(n int) []api.Loc {
	var l []api.Loc
	for range n {
		l = append(l, api.Loc{Disk: m.upTo(0, 23), Slot: m.upTo(0, 63), ID: m.upTo(1, 1<<31-1)})
	}
	return l
}

// rec tells a record of that Kind.
func (m *mixer) rec(kind int) api.Rec {
	sid := func() int { return m.upTo(1, 1<<31-1) }
	number := func() int { return m.upTo(0, 1000000) }
	switch kind {
	case 1:
		return api.Rec{Kind: 1, Key: m.key(), N: m.upTo(0, 64), Sid: sid(), Locs: m.locs(3)}
	case 2:
		return api.Rec{Kind: 2, Key: m.key()}
	case 3:
		return api.Rec{Kind: 3, Key: m.key(), Sid: sid(), Colour: m.below(3), Locs: m.locs(6)}
	case 4:
		return api.Rec{Kind: 4, Key: m.key(), Sid: sid(), Locs: m.locs(3)}
	case 5:
		return api.Rec{Kind: 5, Sid: sid(), Sids: []int{sid(), sid(), sid()}, Locs: m.locs(4)}
	case 6:
		sids := []int{sid(), sid(), sid()}
		n := 6
		for i := range sids {
			if m.below(3) == 0 {
				sids[i] = 0
				n -= 2
			}
		}
		return api.Rec{Kind: 6, Sid: sid(), Sids: sids, Locs: m.locs(n)}
	case 7:
		return api.Rec{Kind: 7, N: m.upTo(0, 15), Sid: sid(), Locs: m.locs(1)}
	}
	return api.Rec{Kind: 8, Table: api.Table{Hot: number(), Warm: number(), Gap: number(), Add: number(), Top: number(), Half: number()}}
}

// names tells whether a Kind names what that letter stands for: Key, N, Sid, Colour, sIds, Locs, Table.
func names(kind int, letter string) bool {
	letters := []string{"", "KNSL", "K", "KSCL", "KSL", "SIL", "SIL", "NSL", "T"}
	return strings.Contains(letters[kind], letter)
}

// model tells the bytes of a record by the chapter's words.
func model(r api.Rec) []byte {
	word := func(b []byte, n int) []byte { return binary.BigEndian.AppendUint32(b, uint32(n)) }
	b := []byte{byte(r.Kind)}
	if names(r.Kind, "K") {
		b = append(append(b, byte(len(r.Key))), r.Key...)
	}
	if names(r.Kind, "N") {
		b = append(b, byte(r.N))
	}
	if names(r.Kind, "S") {
		b = word(b, r.Sid)
	}
	if names(r.Kind, "C") {
		b = append(b, byte(r.Colour))
	}
	for _, sid := range r.Sids {
		b = word(b, sid)
	}
	if r.Kind == 6 {
		b = append(b, byte(len(r.Locs)))
	}
	for _, l := range r.Locs {
		b = word(append(b, byte(l.Disk), byte(l.Slot)), l.ID)
	}
	if names(r.Kind, "T") {
		for _, n := range []int{r.Table.Hot, r.Table.Warm, r.Table.Gap, r.Table.Add, r.Table.Top, r.Table.Half} {
			b = word(b, n)
		}
	}
	return b
}

// isRec tells by the chapter's words, place by place, whether b is what Encode tells of a record.
func isRec(b []byte) bool {
	at := 0
	in := func(size int, least, most uint32) bool {
		if at+size > len(b) {
			return false
		}
		n := binary.BigEndian.Uint32(append(make([]byte, 4-size), b[at:at+size]...))
		at += size
		return n >= least && n <= most
	}
	key := func() bool {
		if !in(1, 1, 16) {
			return false
		}
		for n := b[at-1]; n > 0; n-- {
			if !in(1, 33, 126) {
				return false
			}
		}
		return true
	}
	id := func() bool { return in(4, 1, 1<<31-1) }
	sids := func(least uint32) bool {
		return in(4, least, 1<<31-1) && in(4, least, 1<<31-1) && in(4, least, 1<<31-1)
	}
	locs := func(n int) bool {
		for range n {
			if !in(1, 0, 23) || !in(1, 0, 63) || !id() {
				return false
			}
		}
		return true
	}
	split := func() bool {
		n := uint32(0)
		for i := range 3 {
			if !bytes.Equal(b[at-12+4*i:at-8+4*i], make([]byte, 4)) {
				n += 2
			}
		}
		return in(1, n, n) && locs(int(n))
	}
	table := func() bool {
		for range 6 {
			if !in(4, 0, 1000000) {
				return false
			}
		}
		return true
	}
	if !in(1, 1, 8) {
		return false
	}
	ok := false
	switch b[0] {
	case 1:
		ok = key() && in(1, 0, 64) && id() && locs(3)
	case 2:
		ok = key()
	case 3:
		ok = key() && id() && in(1, 0, 2) && locs(6)
	case 4:
		ok = key() && id() && locs(3)
	case 5:
		ok = id() && sids(1) && locs(4)
	case 6:
		ok = id() && sids(0) && split()
	case 7:
		ok = in(1, 0, 15) && id() && locs(1)
	case 8:
		ok = table()
	}
	return ok && at == len(b)
}

// same tells whether two records are alike; no list and an empty one are.
func same(a, b api.Rec) bool {
	return a.Kind == b.Kind && a.Key == b.Key && a.N == b.N && a.Sid == b.Sid && slices.Equal(a.Sids, b.Sids) && a.Colour == b.Colour && slices.Equal(a.Locs, b.Locs) && a.Table == b.Table
}

// copied tells r in memory of its own.
func copied(r api.Rec) api.Rec {
	r.Sids, r.Locs = slices.Clone(r.Sids), slices.Clone(r.Locs)
	return r
}

// is tells whether r is a record, and what its bytes are, there and back.
func is(t *testing.T, name string, r api.Rec, want []byte) {
	t.Helper()
	if !rec.Ok(r) {
		t.Fatalf("%s: Ok(%+v) = false", name, r)
	}
	b, ok := rec.Encode(r)
	if !ok || !bytes.Equal(b, want) {
		t.Fatalf("%s: Encode(%+v) = %x, %v, want %x, true", name, r, b, ok, want)
	}
	back, ok := rec.Decode(want)
	if !ok || !same(back, r) {
		t.Fatalf("%s: Decode(%x) = %+v, %v, want %+v, true", name, want, back, ok, r)
	}
}

// isNone tells whether r is no record.
func isNone(t *testing.T, name string, r api.Rec) {
	t.Helper()
	if rec.Ok(r) {
		t.Fatalf("%s: Ok(%+v) = true", name, r)
	}
	if b, ok := rec.Encode(r); ok || len(b) != 0 {
		t.Fatalf("%s: Encode(%+v) = %x, %v, want none, false", name, r, b, ok)
	}
}

// isOne tells whether r is a record just if it should be one.
func isOne(t *testing.T, name string, r api.Rec, ok bool) {
	t.Helper()
	if ok {
		is(t, name, r, model(r))
	} else {
		isNone(t, name, r)
	}
}

// tellsNone tells whether b is the bytes of no record.
func tellsNone(t *testing.T, name string, b []byte) {
	t.Helper()
	r, ok := rec.Decode(b)
	if ok || !same(r, api.Rec{}) {
		t.Fatalf("%s: Decode(%x) = %+v, %v, want none, false", name, b, r, ok)
	}
}

// tells tells whether Decode answers of b what isRec says.
func tells(t *testing.T, name string, b []byte) bool {
	t.Helper()
	if !isRec(b) {
		tellsNone(t, name, b)
		return false
	}
	r, ok := rec.Decode(b)
	if !ok || !bytes.Equal(model(r), b) {
		t.Fatalf("%s: Decode(%x) = %+v, %v, which is %x", name, b, r, ok, model(r))
	}
	is(t, name, r, b)
	return true
}

// plain is a record of each Kind, all that it names another number than 0.
func plain(kind int) api.Rec {
	l := []api.Loc{{Disk: 1, Slot: 2, ID: 3}, {Disk: 4, Slot: 5, ID: 6}, {Disk: 7, Slot: 8, ID: 9}, {Disk: 10, Slot: 11, ID: 12}, {Disk: 13, Slot: 14, ID: 15}, {Disk: 16, Slot: 17, ID: 18}}
	switch kind {
	case 1:
		return api.Rec{Kind: 1, Key: "k", N: 5, Sid: 6, Locs: l[:3:3]}
	case 2:
		return api.Rec{Kind: 2, Key: "k"}
	case 3:
		return api.Rec{Kind: 3, Key: "k", Sid: 6, Colour: 1, Locs: l}
	case 4:
		return api.Rec{Kind: 4, Key: "k", Sid: 6, Locs: l[:3:3]}
	case 5:
		return api.Rec{Kind: 5, Sid: 9, Sids: []int{6, 7, 8}, Locs: l[:4:4]}
	case 6:
		return api.Rec{Kind: 6, Sid: 6, Sids: []int{7, 8, 9}, Locs: l}
	case 7:
		return api.Rec{Kind: 7, N: 5, Sid: 6, Locs: l[:1:1]}
	}
	return api.Rec{Kind: 8, Table: api.Table{Hot: 60, Warm: 50, Gap: 40, Add: 30, Top: 70, Half: 2}}
}

// numbers are such as lie at an edge, or begin with one when bits are lost.
func numbers() []int {
	l := []int{0, 1, 2, 3, 4, 13, 14, 15, 16, 17, 22, 23, 24, 25, 31, 32, 62, 63, 64, 65, 66, 127, 128, 255, 256, 257, 65535, 65536, 65537, 999999, 1000000, 1000001, 1<<24 - 1, 1 << 24, 1<<31 - 2, 1<<31 - 1, 1 << 31, 1<<31 + 1, 1<<32 - 1, 1 << 32, 1<<32 + 1, 1<<32 + 5, 1<<40 + 3, 1<<62 + 1, math.MaxInt - 1, math.MaxInt}
	for _, n := range slices.Clone(l[1:]) {
		l = append(l, -n)
	}
	return append(l, math.MinInt)
}

// Promise 13.1: the Kinds.

func TestPlainOnes(t *testing.T) {
	for kind := range 8 {
		r := plain(kind + 1)
		is(t, "plain", r, model(r))
	}
}

func TestKinds(t *testing.T) {
	for _, kind := range append(numbers(), 5, 6, 7, 8, 9, 10, 256+8, 1<<32+8) {
		for of := 1; of <= 8; of++ {
			r := plain(of)
			r.Kind = kind
			// What RMirror names is a blob of no bytes to RPut.
			isOne(t, "of another Kind", r, kind == of || kind == api.RPut && of == api.RMirror)
		}
		isOne(t, "of noughts", api.Rec{Kind: kind}, kind == api.RTable)
	}
}

func TestKeyLengths(t *testing.T) {
	lengths := []int{255, 256, 257, 256 + 16, 512 + 1, 1 << 16, 1<<16 + 1, 1 << 20}
	for n := range 40 {
		lengths = append(lengths, n)
	}
	for kind := 1; kind <= 8; kind++ {
		for _, n := range lengths {
			r := plain(kind)
			r.Key = strings.Repeat("k", n)
			isOne(t, "a key of a length", r, names(kind, "K") && n >= 1 && n <= 16 || !names(kind, "K") && n == 0)
		}
	}
}

func TestKeyBytes(t *testing.T) {
	for kind := 1; kind <= 8; kind++ {
		for _, n := range []int{1, 2, 3, 16, 17} {
			for at := range n {
				for c := range 256 {
					r := plain(kind)
					key := bytes.Repeat([]byte{'a'}, n)
					key[at] = byte(c)
					r.Key = string(key)
					isOne(t, "a key with that byte", r, names(kind, "K") && n <= 16 && c > 32 && c < 127)
				}
			}
		}
	}
}

func TestKeysOfOtherLetters(t *testing.T) {
	for _, key := range []string{"ä", "aé", "日本", "\xf0\x9f\x94\xa5", "\xff", "\xc3", "k\n", "\tk", "a\x00", " ", "a ", " a", "\x7f", "\x80"} {
		r := plain(2)
		r.Key = key
		isNone(t, "another letter", r)
	}
	for _, key := range []string{"!", "~", "!~", "\"#$%&'()*+,-./:;<", "=>?@[\\]^_`{|}~", "0", "AZaz09", "%s%d%x"} {
		for _, kind := range []int{1, 2, 3, 4} {
			r := plain(kind)
			r.Key = key
			isOne(t, "a sign", r, len(key) <= 16)
		}
	}
}

// place is one number of a record.
type place struct {
	name   string
	letter string
	of     func(r *api.Rec) *int
}

// places are all numbers of a record, but those of lists.
func places() []place {
	return []place{
		{"N", "N", func(r *api.Rec) *int { return &r.N }},
		{"Sid", "S", func(r *api.Rec) *int { return &r.Sid }},
		{"Colour", "C", func(r *api.Rec) *int { return &r.Colour }},
		{"Hot", "T", func(r *api.Rec) *int { return &r.Table.Hot }},
		{"Warm", "T", func(r *api.Rec) *int { return &r.Table.Warm }},
		{"Gap", "T", func(r *api.Rec) *int { return &r.Table.Gap }},
		{"Add", "T", func(r *api.Rec) *int { return &r.Table.Add }},
		{"Top", "T", func(r *api.Rec) *int { return &r.Table.Top }},
		{"Half", "T", func(r *api.Rec) *int { return &r.Table.Half }},
	}
}

// bounds tells what a number that is named may be.
func bounds(kind int, letter string) (least, most int) {
	switch letter {
	case "N":
		if kind == 7 {
			return 0, 15
		}
		return 0, 64
	case "S":
		return 1, 1<<31 - 1
	case "C":
		return 0, 2
	case "I":
		if kind == 6 {
			return 0, 1<<31 - 1
		}
		return 1, 1<<31 - 1
	}
	return 0, 1000000
}

func TestNumbers(t *testing.T) {
	for kind := 1; kind <= 8; kind++ {
		for _, p := range places() {
			for _, n := range append(numbers(), 5, 6, 7, 8, 9, 10, 11, 12, 18, 19, 20, 21) {
				r := plain(kind)
				*p.of(&r) = n
				least, most := bounds(kind, p.letter)
				if !names(kind, p.letter) {
					least, most = 0, 0
				}
				isOne(t, p.name, r, n >= least && n <= most)
			}
		}
	}
}

func TestEachOfSids(t *testing.T) {
	for _, kind := range []int{5, 6} {
		for at := range 3 {
			for _, n := range numbers() {
				r := plain(kind)
				r.Sids[at] = n
				if kind == 6 && n == 0 {
					r.Locs = r.Locs[:4]
				}
				least, most := bounds(kind, "I")
				isOne(t, "one of Sids", r, n >= least && n <= most)
			}
		}
	}
}

func TestHowManySids(t *testing.T) {
	for kind := 1; kind <= 8; kind++ {
		for _, n := range []int{0, 1, 2, 3, 4, 5, 6, 256, 257, 259, 1<<16 + 3} {
			for _, sid := range []int{0, 1, 7} {
				r := plain(kind)
				r.Sids = slices.Repeat([]int{sid}, n)
				if kind == 6 && sid == 0 {
					r.Locs = nil
				}
				ok := n == 0
				if names(kind, "I") {
					ok = n == 3 && (sid > 0 || kind == 6)
				}
				isOne(t, "of so many Sids", r, ok)
			}
		}
	}
}

// Sids may be alike, and like the Sid: what is known of them is asked elsewhere.
func TestSidsAlike(t *testing.T) {
	for _, kind := range []int{5, 6} {
		r := plain(kind)
		r.Sids = []int{r.Sid, r.Sid, r.Sid}
		is(t, "alike", r, model(r))
		r.Sids = []int{1<<31 - 1, 1, 1<<31 - 1}
		is(t, "not rising", r, model(r))
	}
}

// wantLocs tells how many Locs a record of that Kind has.
func wantLocs(kind int, sids []int) int {
	if kind == 6 {
		n := 0
		for _, sid := range sids {
			if sid != 0 {
				n += 2
			}
		}
		return n
	}
	return []int{0, 3, 0, 6, 3, 4, 0, 1, 0}[kind]
}

func TestHowManyLocs(t *testing.T) {
	var mix mixer
	counts := []int{256, 257, 258, 259, 260, 262, 512 + 4, 1<<16 + 6}
	for n := range 20 {
		counts = append(counts, n)
	}
	for kind := 1; kind <= 8; kind++ {
		for zeros := range 8 {
			r := plain(kind)
			for i := range r.Sids {
				if kind == 6 && zeros>>i&1 == 1 {
					r.Sids[i] = 0
				}
			}
			for _, n := range counts {
				r.Locs = mix.locs(n)
				isOne(t, "of so many Locs", r, n == wantLocs(kind, r.Sids))
				r.Locs = make([]api.Loc, n)
				isOne(t, "of so many Locs of noughts", r, n == 0 && wantLocs(kind, r.Sids) == 0)
			}
		}
	}
}

func TestEachOfLocs(t *testing.T) {
	for kind := 1; kind <= 8; kind++ {
		for at := range plain(kind).Locs {
			for _, n := range append(numbers(), 5, 12, 20, 21, 40, 61) {
				r := plain(kind)
				r.Locs[at].Disk = n
				isOne(t, "of a Disk", r, n >= 0 && n <= 23)
				r = plain(kind)
				r.Locs[at].Slot = n
				isOne(t, "of a Slot", r, n >= 0 && n <= 63)
				r = plain(kind)
				r.Locs[at].ID = n
				isOne(t, "of an ID", r, n >= 1 && n <= 1<<31-1)
			}
		}
	}
}

// Locs may be alike: which of them lie on unlike disks is asked elsewhere.
func TestLocsAlike(t *testing.T) {
	for kind := 1; kind <= 8; kind++ {
		r := plain(kind)
		for i := range r.Locs {
			r.Locs[i] = api.Loc{Disk: 23, Slot: 63, ID: 1<<31 - 1}
		}
		is(t, "alike", r, model(r))
		for i := range r.Locs {
			r.Locs[i] = api.Loc{Disk: 0, Slot: 0, ID: 1}
		}
		is(t, "alike", r, model(r))
	}
}

// What a Kind does not name is its zero value: of each other Kind's things, by itself, none is borne.
func TestNothingElse(t *testing.T) {
	give := map[string]func(r *api.Rec){
		"K": func(r *api.Rec) { r.Key = "k" },
		"N": func(r *api.Rec) { r.N = 1 },
		"S": func(r *api.Rec) { r.Sid = 1 },
		"C": func(r *api.Rec) { r.Colour = 1 },
		"I": func(r *api.Rec) { r.Sids = []int{1, 2, 3} },
		"L": func(r *api.Rec) { r.Locs = append(r.Locs, api.Loc{Disk: 1, Slot: 1, ID: 1}) },
		"T": func(r *api.Rec) { r.Table = api.Table{Hot: 6, Warm: 5, Gap: 4, Add: 3, Top: 2, Half: 1} },
	}
	take := map[string]func(r *api.Rec){
		"K": func(r *api.Rec) { r.Key = "" },
		"S": func(r *api.Rec) { r.Sid = 0 },
		"I": func(r *api.Rec) { r.Sids = nil },
		"L": func(r *api.Rec) { r.Locs = nil },
	}
	for kind := 1; kind <= 8; kind++ {
		for letter, turn := range give {
			r := plain(kind)
			turn(&r)
			isOne(t, "with "+letter, r, names(kind, letter) && letter != "L")
		}
		for letter, turn := range take {
			r := plain(kind)
			turn(&r)
			isOne(t, "without "+letter, r, !names(kind, letter))
		}
	}
}

func TestNoneAndEmpty(t *testing.T) {
	for kind := 1; kind <= 8; kind++ {
		r := plain(kind)
		want := model(r)
		if len(r.Sids) == 0 {
			r.Sids = []int{}
		}
		if len(r.Locs) == 0 {
			r.Locs = []api.Loc{}
		}
		is(t, "empty", r, want)
	}
	none := api.Rec{Kind: 6, Sid: 1, Sids: []int{0, 0, 0}}
	is(t, "no Locs", none, []byte{6, 0, 0, 0, 1, 0, 0, 0, 0, 0, 0, 0, 0, 0, 0, 0, 0, 0})
	none.Locs = []api.Loc{}
	is(t, "empty Locs", none, []byte{6, 0, 0, 0, 1, 0, 0, 0, 0, 0, 0, 0, 0, 0, 0, 0, 0, 0})
}

// Promise 13.2: the bytes.

func TestWrittenDown(t *testing.T) {
	for _, x := range []struct {
		r    api.Rec
		want string
	}{
		{plain(1), "01 01 6b 05 00000006 01 02 00000003 04 05 00000006 07 08 00000009"},
		{api.Rec{Kind: 1, Key: "0123456789abcdef", N: 64, Sid: 0x01020304, Locs: []api.Loc{{Disk: 23, Slot: 63, ID: 1<<31 - 1}, {Disk: 0, Slot: 0, ID: 1}, {Disk: 9, Slot: 33, ID: 0x0a0b0c0d}}}, "01 10 30313233343536373839616263646566 40 01020304 17 3f 7fffffff 00 00 00000001 09 21 0a0b0c0d"},
		{api.Rec{Kind: 1, Key: "!", Sid: 1<<31 - 1, Locs: []api.Loc{{ID: 256}, {ID: 65536}, {ID: 1 << 24}}}, "01 01 21 00 7fffffff 00 00 00000100 00 00 00010000 00 00 01000000"},
		{plain(2), "02 01 6b"},
		{api.Rec{Kind: 2, Key: "!~"}, "02 02 21 7e"},
		{plain(3), "03 01 6b 00000006 01 01 02 00000003 04 05 00000006 07 08 00000009 0a 0b 0000000c 0d 0e 0000000f 10 11 00000012"},
		{plain(4), "04 01 6b 00000006 01 02 00000003 04 05 00000006 07 08 00000009"},
		{plain(5), "05 00000009 00000006 00000007 00000008 01 02 00000003 04 05 00000006 07 08 00000009 0a 0b 0000000c"},
		{plain(6), "06 00000006 00000007 00000008 00000009 06 01 02 00000003 04 05 00000006 07 08 00000009 0a 0b 0000000c 0d 0e 0000000f 10 11 00000012"},
		{api.Rec{Kind: 6, Sid: 0x11223344, Sids: []int{0, 0x55667788, 0}, Locs: []api.Loc{{Disk: 1, Slot: 2, ID: 3}, {Disk: 4, Slot: 5, ID: 6}}}, "06 11223344 00000000 55667788 00000000 02 01 02 00000003 04 05 00000006"},
		{plain(7), "07 05 00000006 01 02 00000003"},
		{api.Rec{Kind: 7, Sid: 1, Locs: []api.Loc{{ID: 1}}}, "07 00 00000001 00 00 00000001"},
		{plain(8), "08 0000003c 00000032 00000028 0000001e 00000046 00000002"},
		{api.Rec{Kind: 8, Table: api.Table{Hot: 1000000, Top: 1000000}}, "08 000f4240 00000000 00000000 00000000 000f4240 00000000"},
		{api.Rec{Kind: 8}, "08 00000000 00000000 00000000 00000000 00000000 00000000"},
	} {
		want, err := hex.DecodeString(strings.ReplaceAll(x.want, " ", ""))
		if err != nil {
			t.Fatal(err)
		}
		is(t, "written down", x.r, want)
	}
}

func TestExamples(t *testing.T) {
	is(t, "RDel of k", api.Rec{Kind: api.RDel, Key: "k"}, []byte{2, 1, 107})
}

func TestKindsByName(t *testing.T) {
	for i, kind := range []int{api.RPut, api.RDel, api.RNarrow, api.RMirror, api.RMerge, api.RSplit, api.RMove, api.RTable} {
		r := plain(i + 1)
		r.Kind = kind
		is(t, "by name", r, model(plain(i+1)))
	}
}

func TestShortAndLong(t *testing.T) {
	var mix mixer
	for kind := 1; kind <= 8; kind++ {
		for range 20 {
			b := model(mix.rec(kind))
			for n := range b {
				tellsNone(t, "short", b[:n])
				tellsNone(t, "short, with the rest in its room", b[:n:n])
				tells(t, "short ahead", b[len(b)-n:])
			}
			for _, more := range []int{1, 2, 4, 6, 12, 250, 1 << 16} {
				tellsNone(t, "long", append(slices.Clone(b), make([]byte, more)...))
				tellsNone(t, "mixed behind", append(slices.Clone(b), mix.bytes(more)...))
				tellsNone(t, "noughts ahead", append(make([]byte, more), b...))
			}
			tellsNone(t, "twice", append(slices.Clone(b), b...))
		}
	}
}

func TestShortBytes(t *testing.T) {
	tellsNone(t, "nil", nil)
	tellsNone(t, "empty", []byte{})
	for a := range 256 {
		tellsNone(t, "one byte", []byte{byte(a)})
		for b := range 256 {
			tellsNone(t, "two bytes", []byte{byte(a), byte(b)})
			for _, c := range []byte{0, 32, 33, 107, 126, 127, 128, 255} {
				if tells(t, "three bytes", []byte{byte(a), byte(b), c}) != (a == 2 && b == 1 && c > 32 && c < 127) {
					t.Fatalf("isRec is wrong of %d, %d, %d", a, b, c)
				}
			}
		}
	}
}

func TestOneByteAnother(t *testing.T) {
	var mix mixer
	ok := 0
	for kind := 1; kind <= 8; kind++ {
		for i := range 6 {
			r := mix.rec(kind)
			if i == 0 {
				r = plain(kind)
			}
			b := model(r)
			for at := range b {
				was := b[at]
				for c := range 256 {
					b[at] = byte(c)
					if tells(t, "one byte another", b) {
						ok++
					}
				}
				b[at] = was
			}
		}
	}
	if ok < 50000 {
		t.Errorf("%d were records: the trial tells too little", ok)
	}
}

// A byte more and a byte less, at each place.
func TestBytesPushedIn(t *testing.T) {
	var mix mixer
	for kind := 1; kind <= 8; kind++ {
		for range 6 {
			b := model(mix.rec(kind))
			for at := range b {
				tells(t, "a byte less", slices.Delete(slices.Clone(b), at, at+1))
				for _, c := range []byte{0, 1, 2, 33, 107, 255, byte(mix.below(256))} {
					tells(t, "a byte more", slices.Insert(slices.Clone(b), at, c))
				}
			}
		}
	}
}

// Words of each place where only some numbers may be, written by the model whatever they are.
func TestDecodeOfNumbersOutside(t *testing.T) {
	one := func(name string, r api.Rec, n, least, most int) {
		t.Helper()
		if told := tells(t, name, model(r)); told != (n >= least && n <= most) {
			t.Fatalf("%s: Decode(%x) tells a record: %v", name, model(r), told)
		}
	}
	for kind := 1; kind <= 8; kind++ {
		for _, n := range numbers() {
			if n < 0 || n >= 1<<32 {
				continue
			}
			for _, p := range places() {
				if !names(kind, p.letter) || n > 255 && strings.Contains("NC", p.letter) {
					continue
				}
				r := plain(kind)
				*p.of(&r) = n
				least, most := bounds(kind, p.letter)
				one(p.name, r, n, least, most)
			}
			for at := range plain(kind).Locs {
				r := plain(kind)
				r.Locs[at].ID = n
				one("ID", r, n, 1, 1<<31-1)
				if n > 255 {
					continue
				}
				r = plain(kind)
				r.Locs[at].Disk = n
				one("Disk", r, n, 0, 23)
				r = plain(kind)
				r.Locs[at].Slot = n
				one("Slot", r, n, 0, 63)
			}
			for at := range plain(kind).Sids {
				r := plain(kind)
				r.Sids[at] = n
				if kind == 6 && n == 0 {
					r.Locs = r.Locs[:4]
				}
				least, most := bounds(kind, "I")
				one("Sids", r, n, least, most)
			}
		}
	}
}

func TestDecodeOfKeyLengths(t *testing.T) {
	for _, kind := range []int{1, 2, 3, 4} {
		for n := range 256 {
			for have := range 40 {
				r := plain(kind)
				r.Key = strings.Repeat("k", have)
				b := model(r)
				b[1] = byte(n)
				tells(t, "a key's length", b)
			}
			r := plain(kind)
			r.Key = strings.Repeat("k", n)
			if tells(t, "a long key", model(r)) != (n >= 1 && n <= 16) {
				t.Fatalf("isRec is wrong of a key of %d bytes", n)
			}
		}
	}
}

// RSplit tells how many Locs it has; these are two for each of Sids that is not 0, and no others.
func TestDecodeOfSplits(t *testing.T) {
	var mix mixer
	for zeros := range 8 {
		for count := range 256 {
			for _, have := range []int{0, 1, 2, 3, 4, 5, 6, 7, 8, count} {
				r := plain(6)
				for i := range r.Sids {
					if zeros>>i&1 == 1 {
						r.Sids[i] = 0
					}
				}
				r.Locs = mix.locs(have)
				b := model(r)
				b[17] = byte(count)
				want := count == have && count == wantLocs(6, r.Sids)
				if tells(t, "a split", b) != want {
					t.Fatalf("isRec is wrong of %x", b)
				}
			}
		}
	}
}

// No number of Locs is told ahead of other Kinds' Locs.
func TestNoCountOfLocs(t *testing.T) {
	for _, kind := range []int{1, 3, 4, 5, 7} {
		r := plain(kind)
		b := model(r)
		at := len(b) - 6*len(r.Locs)
		tellsNone(t, "with a number", slices.Insert(slices.Clone(b), at, byte(len(r.Locs))))
	}
	b := model(plain(6))
	tellsNone(t, "without a number", slices.Delete(slices.Clone(b), 17, 18))
}

// A journal takes records of 1 to 250 bytes.
func TestAllFit(t *testing.T) {
	var mix mixer
	longest := []int{0, 41, 18, 59, 40, 41, 54, 12, 25}
	for kind := 1; kind <= 8; kind++ {
		most := 0
		for range 500 {
			b, ok := rec.Encode(mix.rec(kind))
			if !ok || len(b) < 1 || len(b) > api.MaxRec {
				t.Fatalf("Kind %d: %d bytes, %v", kind, len(b), ok)
			}
			most = max(most, len(b))
		}
		if most != longest[kind] {
			t.Errorf("Kind %d: up to %d bytes, want %d", kind, most, longest[kind])
		}
	}
}

// Promise 13.3 with W7: there and back.

func TestThereAndBack(t *testing.T) {
	var mix mixer
	for i := range 40000 {
		r := mix.rec(i%8 + 1)
		is(t, "there and back", r, model(r))
		if again, _ := rec.Encode(r); !bytes.Equal(again, model(r)) {
			t.Fatalf("Encode(%+v) again = %x, want %x", r, again, model(r))
		}
	}
}

func TestUnlikeBytesOfUnlikeRecords(t *testing.T) {
	var mix mixer
	seen := map[string]api.Rec{}
	add := func(r api.Rec) {
		b, ok := rec.Encode(r)
		if !ok {
			return
		}
		if other, there := seen[string(b)]; there && !same(other, r) {
			t.Fatalf("%+v and %+v are both %x", other, r, b)
		}
		seen[string(b)] = r
	}
	for kind := 1; kind <= 8; kind++ {
		for _, n := range numbers() {
			for _, p := range places() {
				r := plain(kind)
				*p.of(&r) = n
				add(r)
			}
		}
		for range 3000 {
			add(mix.rec(kind))
		}
	}
	if len(seen) < 20000 {
		t.Errorf("%d records were seen: the trial tells too little", len(seen))
	}
}

// W8: whatever bytes are read are refused or what they say.
func TestMixedBytes(t *testing.T) {
	var mix mixer
	whole := 0
	for range 60000 {
		b := model(mix.rec(1 + mix.below(8)))
		switch mix.below(6) {
		case 0:
			b[mix.below(len(b))] ^= byte(1 << mix.below(8))
		case 1:
			b[0] = byte(mix.below(10))
		case 2:
			b = append(b[:mix.below(len(b))], mix.bytes(mix.below(8))...)
		case 3:
			b = append([]byte{byte(mix.below(9))}, mix.bytes(mix.below(70))...)
		}
		if tells(t, "mixed", b) {
			whole++
		}
	}
	if whole < 15000 || whole > 45000 {
		t.Errorf("%d of 60000 were records: the trial tells too little", whole)
	}
}

// Rule 3: what is handed in stays, and what is answered is new.

func TestHandedInStays(t *testing.T) {
	var mix mixer
	for i := range 4000 {
		r := mix.rec(i%8 + 1)
		if mix.below(3) == 0 {
			r.N = mix.below(100) // often no record
		}
		sids, locs := append(slices.Clone(r.Sids), 71, 72, 73), append(slices.Clone(r.Locs), mix.locs(4)...)
		wasSids, wasLocs := slices.Clone(sids), slices.Clone(locs)
		r.Sids, r.Locs = sids[:len(r.Sids)], locs[:len(r.Locs)]
		rec.Ok(r)
		b, _ := rec.Encode(r)
		if !slices.Equal(sids, wasSids) || !slices.Equal(locs, wasLocs) {
			t.Fatalf("%+v was changed, or its spare room", r)
		}
		wide := append(slices.Clone(b), mix.bytes(80)...)
		was := slices.Clone(wide)
		for n := range wide {
			rec.Decode(wide[:n])
		}
		if !bytes.Equal(wide, was) {
			t.Fatalf("the bytes of %+v were changed, or their spare room", r)
		}
	}
}

// smear writes over all of a list, its spare room too.
func smear[T any](l []T, with T) {
	all := l[:cap(l)]
	for i := range all {
		all[i] = with
	}
}

func TestAnswersAreNewMemory(t *testing.T) {
	var mix mixer
	for i := range 4000 {
		r := mix.rec(i%8 + 1)
		was, want := copied(r), model(r)
		a, _ := rec.Encode(r)
		b, _ := rec.Encode(r)
		smear(a, 255)
		if !bytes.Equal(b, want) || !same(r, was) {
			t.Fatalf("what Encode told of %+v shares memory", was)
		}
		x, _ := rec.Decode(b)
		y, _ := rec.Decode(b)
		smear(x.Sids, 99)
		smear(x.Locs, api.Loc{Disk: 99})
		if !bytes.Equal(b, want) || !same(y, was) {
			t.Fatalf("what Decode told of %x shares memory", want)
		}
		smear(b, 255)
		smear(r.Sids, 99)
		smear(r.Locs, api.Loc{Disk: 99})
		if !same(y, was) {
			t.Fatalf("what Decode told of %x changed with its bytes", want)
		}
		again, ok := rec.Encode(was)
		if !ok || !bytes.Equal(again, want) {
			t.Fatalf("Encode(%+v) = %x, %v behind all that, want %x", was, again, ok, want)
		}
	}
}

// What was told once is told again, whatever was asked between.
func TestNothingIsKept(t *testing.T) {
	var mix mixer
	var all []api.Rec
	for i := range 400 {
		all = append(all, mix.rec(i%8+1))
	}
	for range 3 {
		for _, r := range all {
			is(t, "again", r, model(r))
			r.Sid ^= 1 << 40
			isNone(t, "between", r)
			rec.Decode(mix.bytes(mix.below(60)))
		}
		slices.Reverse(all)
	}
}

// Promise 13.4: no call panics.

func TestNoCallPanicsOfRecords(t *testing.T) {
	var mix mixer
	l := numbers()
	number := func() int {
		if mix.below(3) == 0 {
			return l[mix.below(len(l))]
		}
		return mix.below(5)
	}
	for range 100000 {
		r := api.Rec{Kind: number(), Key: string(mix.bytes(mix.below(20))), N: number(), Sid: number(), Colour: number(), Table: api.Table{Hot: number(), Warm: number(), Gap: number(), Add: number(), Top: number(), Half: number()}}
		if mix.below(2) == 0 {
			r = plain(1 + mix.below(8))
			r.Kind = number()
		}
		for range mix.below(5) {
			r.Sids = append(r.Sids, number())
		}
		for range mix.below(8) {
			r.Locs = append(r.Locs, api.Loc{Disk: number(), Slot: number(), ID: number()})
		}
		ok := rec.Ok(r)
		b, told := rec.Encode(r)
		if ok != told || told != (len(b) > 0) {
			t.Fatalf("Ok(%+v) = %v, Encode %x, %v", r, ok, b, told)
		}
		if ok {
			is(t, "any", r, model(r))
		}
	}
}

func TestNoCallPanicsOfBytes(t *testing.T) {
	var mix mixer
	for n := range 300 {
		for kind := range 256 {
			for _, rest := range [][]byte{make([]byte, n), bytes.Repeat([]byte{255}, n), bytes.Repeat([]byte{1}, n), bytes.Repeat([]byte{'k'}, n), mix.bytes(n)} {
				tells(t, "any bytes", append([]byte{byte(kind)}, rest...))
			}
		}
	}
}

func TestLongOnes(t *testing.T) {
	for kind := range 10 {
		long := make([]byte, 1<<22)
		long[0] = byte(kind)
		tellsNone(t, "long", long)
		smear(long[1:], 255)
		tellsNone(t, "long", long)
		r := plain(6)
		r.Kind = kind
		r.Locs = make([]api.Loc, 1<<20)
		isNone(t, "many Locs", r)
		r.Sids = make([]int, 1<<20)
		isNone(t, "many Sids", r)
		r.Key = strings.Repeat("k", 1<<22)
		isNone(t, "a long key", r)
	}
}
