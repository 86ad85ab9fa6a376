package heat_test

import (
	"fmt"
	"math"
	"slices"
	"strings"
	"testing"

	"hypocaust/heat"
)

// hottest is the greatest heat that there is.
const hottest = 1000000

// mixer tells numbers that look mixed, the same ones each time.
type mixer uint64

func (m *mixer) below(n int) int {
	*m = *m*6364136223846793005 + 1442695040888963407
	return int(uint64(*m) >> 33 % uint64(n))
}

// strange are numbers that few things have, rising.
func strange() []int {
	return []int{math.MinInt, math.MinInt + 1, -1 << 62, -1 << 32, math.MinInt32, -hottest - 1, -hottest, -256, -31, -2, -1, 0, 1, 2, 3, 9, 10, 11, 29, 30, 31, 32, 63, 64, 65, 100, 255, 256, 1 << 16, hottest/2 - 1, hottest / 2, hottest/2 + 1, hottest - 1, hottest, hottest + 1, 2*hottest - 1, 2 * hottest, 2*hottest + 1, math.MaxInt32, 1 << 32, 1<<32 + 1, 1 << 62, math.MaxInt - hottest, math.MaxInt - 1, math.MaxInt}
}

// unlike are keys that are easily taken for one another, by bytes.
func unlike() []string {
	return []string{"", "\x00", "\x00\x00", " ", "A", "B", "Z", "a", "a\x00", "a ", "aa", "ab", "b", strings.Repeat("k", 16), strings.Repeat("k", 17), strings.Repeat("k", 300), "\x7f", "\x80", "e\u0301", "\u00e9", "\u20ac", "\ufffd", "\U0001f525", "\xf8", "\xff", "\xff\xff"}
}

// of makes a Heat in which each key has the heat that is told behind it.
func of(t *testing.T, pairs ...any) *heat.Heat {
	t.Helper()
	h := heat.New()
	for i := 0; i < len(pairs); i += 2 {
		warm(t, h, pairs[i].(string), pairs[i+1].(int))
	}
	return h
}

// warm gives a key that has none that heat.
func warm(t *testing.T, h *heat.Heat, key string, heat int) {
	t.Helper()
	if got := h.Touch(key, heat, hottest); got != heat {
		t.Fatalf("Touch(%q, %d, %d) = %d, want %d", key, heat, hottest, got, heat)
	}
}

// heatIs tells whether key has that heat, and is among the Keys just where it has one.
func heatIs(t *testing.T, name string, h *heat.Heat, key string, want int) {
	t.Helper()
	if got := h.Get(key); got != want {
		t.Fatalf("%s: Get(%q) = %d, want %d", name, key, got, want)
	}
	if got := slices.Contains(h.Keys(), key); got != (want > 0) {
		t.Fatalf("%s: of heat %d, %q is among Keys: %v", name, want, key, got)
	}
}

// keysAre tells whether just these keys have a heat.
func keysAre(t *testing.T, name string, h *heat.Heat, want ...string) {
	t.Helper()
	if got := h.Keys(); !slices.Equal(got, want) {
		t.Fatalf("%s: Keys = %q, want %q", name, got, want)
	}
}

// touchesAre tells whether there were so many Touches.
func touchesAre(t *testing.T, name string, h *heat.Heat, want int) {
	t.Helper()
	if got := h.Touches(); got != want {
		t.Fatalf("%s: Touches = %d, want %d", name, got, want)
	}
}

// told tells all that a Heat tells.
func told(h *heat.Heat) string {
	var b strings.Builder
	fmt.Fprint(&b, h.Touches())
	for _, key := range h.Keys() {
		fmt.Fprintf(&b, " %q %d", key, h.Get(key))
	}
	return b.String()
}

// cut tells n, where it is below 0 as 0, where it is above most as that.
func cut(n, most int) int {
	switch {
	case n < 0:
		return 0
	case n > most:
		return most
	}
	return n
}

// touched tells what a heat becomes by a Touch, as the chapter words it.
func touched(was, add, top int) int {
	add, top = cut(add, hottest), cut(top, hottest)
	room := top - was // below 0, where it is above top
	if room < add {
		return top
	}
	return was + add
}

// cooled tells what a heat becomes by a Cool: divided, where the program shifts.
func cooled(was, half int) int {
	parts := 1
	for range cut(half, 30) {
		parts *= 2
	}
	return cut(was-was/parts-1, hottest)
}

// Promise 16.1: New.

func TestNew(t *testing.T) {
	h := heat.New()
	keysAre(t, "new", h)
	touchesAre(t, "new", h, 0)
	for _, key := range unlike() {
		heatIs(t, "new", h, key, 0)
		h.Drop(key)
	}
	for _, half := range strange() {
		h.Cool(half)
	}
	keysAre(t, "new and cooled", h)
	touchesAre(t, "new and cooled", h, 0)
}

func TestExample(t *testing.T) {
	h := heat.New()
	h.Touch("k", 10, 100)
	h.Cool(1)
	heatIs(t, "behind Cool", h, "k", 4)
}

func TestHeatsAreApart(t *testing.T) {
	a, b := of(t, "k", 10), of(t, "k", 20, "l", 30)
	a.Touch("k", 1, 100)
	b.Cool(0)
	a.Touch("m", 5, 100)
	if got, want := told(a), `3 "k" 11 "m" 5`; got != want {
		t.Errorf("one tells %s, want %s", got, want)
	}
	if got, want := told(b), `2`; got != want {
		t.Errorf("the other tells %s, want %s", got, want)
	}
}

// Promise 16.1: Touch.

func TestTouch(t *testing.T) {
	h := heat.New()
	for i, x := range []struct {
		key            string
		add, top, want int
	}{
		{"k", 10, 100, 10},
		{"k", 10, 100, 20},
		{"k", 0, 100, 20},
		{"l", 7, 100, 7},
		{"k", 79, 100, 99},
		{"k", 1, 100, 100},
		{"k", 1, 100, 100},
		{"l", 94, 100, 100},
		{"k", 5, 101, 101},
		{"k", 0, 100, 100},
		{"k", 50, 30, 30},
		{"l", 1, 101, 101},
		{"k", 1, 31, 31},
	} {
		if got := h.Touch(x.key, x.add, x.top); got != x.want {
			t.Fatalf("%d: Touch(%q, %d, %d) = %d, want %d", i, x.key, x.add, x.top, got, x.want)
		}
		heatIs(t, fmt.Sprint(i), h, x.key, x.want)
		touchesAre(t, fmt.Sprint(i), h, i+1)
	}
	keysAre(t, "at the end", h, "k", "l")
}

// All small heats, with all that may be added, up to all tops.
func TestTouchOfEachNumber(t *testing.T) {
	for was := range 13 {
		for add := -2; add < 13; add++ {
			for top := -2; top < 25; top++ {
				isTouched(t, was, add, top)
			}
		}
	}
}

// Great numbers, and those below 0, are cut ahead of the sum: none wraps round.
func TestTouchOfStrangeNumbers(t *testing.T) {
	for _, was := range []int{0, 1, 2, 30, 499999, 500000, 500001, hottest - 1, hottest} {
		for _, add := range strange() {
			for _, top := range strange() {
				isTouched(t, was, add, top)
			}
		}
	}
}

// isTouched tells whether a heat becomes by a Touch what it should, and no other one changes.
func isTouched(t *testing.T, was, add, top int) {
	t.Helper()
	h := of(t, "j", 8, "k", was, "l", hottest)
	name := fmt.Sprintf("%d, Touched by %d to %d", was, add, top)
	got, want := h.Touch("k", add, top), touched(was, add, top)
	if got != want {
		t.Fatalf("%s: %d, want %d", name, got, want)
	}
	if got < was && was <= max(top, 0) || got > max(top, 0) || got > hottest || got < 0 {
		t.Fatalf("%s: %d, which none may be", name, got)
	}
	heatIs(t, name, h, "k", want)
	heatIs(t, name, h, "j", 8)
	heatIs(t, name, h, "l", hottest)
	touchesAre(t, name, h, 4)
}

// A top of 0 takes the heat away; the next Touch begins anew.
func TestTouchToNone(t *testing.T) {
	for _, top := range []int{math.MinInt, -1, 0} {
		h := of(t, "k", 10, "l", 5)
		if got := h.Touch("k", 3, top); got != 0 {
			t.Fatalf("Touch to %d = %d, want 0", top, got)
		}
		keysAre(t, "behind Touch to 0", h, "l")
		warm(t, h, "k", 4)
		keysAre(t, "behind Touch anew", h, "k", "l")
	}
}

// Who is touched by nothing has no heat, and is no key; it was touched all the same.
func TestTouchByNothing(t *testing.T) {
	h := heat.New()
	for i, x := range [][2]int{{0, 100}, {-1, 100}, {math.MinInt, hottest}, {10, 0}, {10, -1}, {0, 0}, {hottest, math.MinInt}} {
		if got := h.Touch("k", x[0], x[1]); got != 0 {
			t.Fatalf("Touch(k, %d, %d) = %d, want 0", x[0], x[1], got)
		}
		heatIs(t, "behind Touch", h, "k", 0)
		keysAre(t, "behind Touch", h)
		touchesAre(t, "behind Touch", h, i+1)
	}
}

func TestHottest(t *testing.T) {
	h := of(t, "k", hottest-1)
	for range 3 {
		if got := h.Touch("k", 1, math.MaxInt); got != hottest {
			t.Fatalf("Touch = %d, want %d", got, hottest)
		}
	}
	for range 3 {
		if got := h.Touch("k", math.MaxInt, math.MaxInt); got != hottest {
			t.Fatalf("Touch = %d, want %d", got, hottest)
		}
	}
	heatIs(t, "at the end", h, "k", hottest)
}

// Promise 16.1: keys are bytes, and ordered so.

func TestKeysByBytes(t *testing.T) {
	h := heat.New()
	sorted := unlike()
	byBytes := func(a, b string) int { return slices.Compare([]byte(a), []byte(b)) }
	slices.SortFunc(sorted, byBytes)
	var want []string
	for i := range sorted {
		at := i * 7 % len(sorted) // in no order
		warm(t, h, sorted[at], 10+at)
		want = append(want, sorted[at])
		slices.SortFunc(want, byBytes)
		keysAre(t, fmt.Sprint(i), h, want...)
	}
	keysAre(t, "all", h, sorted...)
	for i, key := range sorted {
		heatIs(t, "all", h, key, 10+i)
	}
}

func TestKeysAreNewMemory(t *testing.T) {
	h := of(t, "a", 1, "b", 2, "c", 3)
	first, second := h.Keys(), h.Keys()
	first = first[:cap(first)]
	for i := range first {
		first[i] = "z"
	}
	if !slices.Equal(second, []string{"a", "b", "c"}) {
		t.Errorf("another answer became %q", second)
	}
	keysAre(t, "behind", h, "a", "b", "c")
	h.Drop("b")
	if !slices.Equal(second, []string{"a", "b", "c"}) {
		t.Errorf("an earlier answer became %q", second)
	}
}

// Promise 16.1: Cool.

func TestCool(t *testing.T) {
	for _, x := range [][3]int{
		{10, 0, 0}, {10, 1, 4}, {10, 2, 7}, {10, 3, 8}, {10, 4, 9}, {10, 30, 9},
		{1, 0, 0}, {1, 1, 0}, {1, 30, 0},
		{2, 0, 0}, {2, 1, 0}, {2, 2, 1}, {2, 30, 1},
		{3, 1, 1}, {4, 1, 1}, {5, 1, 2}, {3, 2, 2}, {4, 2, 2}, {8, 3, 6}, {7, 3, 6},
		{hottest, 0, 0}, {hottest, 1, 499999}, {hottest, 2, 749999}, {hottest, 19, 999998}, {hottest, 20, 999999}, {hottest, 30, 999999},
		{1 << 19, 19, 1<<19 - 2}, {1<<19 - 1, 19, 1<<19 - 2},
		{10, -1, 0}, {10, math.MinInt, 0}, {10, 31, 9}, {10, 64, 9}, {10, math.MaxInt, 9}, {hottest, 1 << 32, 999999},
	} {
		h := of(t, "k", x[0])
		h.Cool(x[1])
		heatIs(t, fmt.Sprintf("%d, behind Cool(%d)", x[0], x[1]), h, "k", x[2])
		touchesAre(t, "behind Cool", h, 1)
	}
}

// All small heats, and great ones, by each number, in one Heat.
func TestCoolOfEachNumber(t *testing.T) {
	heats := []int{hottest, hottest - 1, hottest / 2}
	for n := 1; n < 80; n++ {
		heats = append(heats, n)
	}
	for bit := 7; bit < 20; bit++ {
		heats = append(heats, 1<<bit-1, 1<<bit, 1<<bit+1)
	}
	halves := strange()
	for half := range 40 {
		halves = append(halves, half)
	}
	for _, half := range halves {
		h := heat.New()
		left := slices.Clone(heats)
		for i, n := range left {
			warm(t, h, fmt.Sprint(i), n)
		}
		for range 3 {
			h.Cool(half)
			for i, n := range left {
				left[i] = cooled(n, half)
				heatIs(t, fmt.Sprintf("%d, behind Cool(%d)", n, half), h, fmt.Sprint(i), left[i])
			}
		}
	}
}

// Those that are at 0 are dropped; the others stay, each cooled once.
func TestCoolDrops(t *testing.T) {
	h := of(t, "a", 1, "b", 2, "c", 3, "d", 4, "e", 1)
	h.Cool(30)
	keysAre(t, "behind one", h, "b", "c", "d")
	h.Cool(30)
	keysAre(t, "behind two", h, "c", "d")
	warm(t, h, "b", 2)
	h.Cool(1)
	keysAre(t, "behind three", h)
	warm(t, h, "d", 6)
	keysAre(t, "at the end", h, "d")
	touchesAre(t, "at the end", h, 7)
}

// Many keys are cooled as few: each one once.
func TestCoolOfMany(t *testing.T) {
	h := heat.New()
	for i := range 3000 {
		warm(t, h, fmt.Sprint(i), 1+i)
	}
	for half := 10; half > 1; half-- {
		was := map[string]int{}
		for _, key := range h.Keys() {
			was[key] = h.Get(key)
		}
		h.Cool(half)
		left := 0
		for key, n := range was {
			want := cooled(n, half)
			if got := h.Get(key); got != want {
				t.Fatalf("behind Cool(%d): %q of %d became %d, want %d", half, key, n, got, want)
			}
			if want > 0 {
				left++
			}
		}
		if got := len(h.Keys()); got != left || left == 0 {
			t.Fatalf("behind Cool(%d): %d keys, want %d, and more than none", half, got, left)
		}
	}
	h.Cool(0)
	keysAre(t, "behind Cool(0)", h)
	touchesAre(t, "at the end", h, 3000)
}

// Promise 16.1: Drop.

func TestDrop(t *testing.T) {
	h := of(t, "a", 1, "b", 20, "c", 300)
	h.Drop("b")
	heatIs(t, "behind Drop", h, "b", 0)
	keysAre(t, "behind Drop", h, "a", "c")
	heatIs(t, "behind Drop", h, "a", 1)
	heatIs(t, "behind Drop", h, "c", 300)
	for _, key := range append(unlike(), "b", "a", "d") {
		if key != "a" {
			h.Drop(key)
		}
	}
	keysAre(t, "behind Drops of none", h, "a", "c")
	touchesAre(t, "behind Drops", h, 3)
	warm(t, h, "b", 5) // it begins at 0
	keysAre(t, "behind Touch", h, "a", "b", "c")
	for _, key := range h.Keys() {
		h.Drop(key)
	}
	keysAre(t, "behind Drops of all", h)
	touchesAre(t, "at the end", h, 4)
}

// Promise 16.1: Touches.

// Each Touch counts, whatever it does, and nothing else does.
func TestTouches(t *testing.T) {
	h := heat.New()
	for i := range 5000 {
		switch i % 5 {
		case 0:
			h.Touch("k", 1, 100)
		case 1:
			h.Touch("k", 0, 100)
		case 2:
			h.Touch("k", 1, 0)
		case 3:
			h.Touch(fmt.Sprint(i), -1, -1)
		case 4:
			h.Touch(fmt.Sprint(i), math.MaxInt, math.MaxInt)
		}
		touchesAre(t, "behind Touch", h, i+1)
		h.Cool(1)
		h.Drop("k")
		h.Get("k")
		h.Keys()
		h.Touches()
		touchesAre(t, "behind the others", h, i+1)
	}
}

// Promise 16.1 by scripts, against a list that is kept beside.

// entry is a key and its heat, 0 too.
type entry struct {
	key  string
	heat int
}

// twin is what a Heat should be: all keys that were ever named, in the order in which they were.
type twin struct {
	entries []entry
	touches int
}

func (w *twin) of(key string) *entry {
	for i := range w.entries {
		if w.entries[i].key == key {
			return &w.entries[i]
		}
	}
	w.entries = append(w.entries, entry{key: key})
	return &w.entries[len(w.entries)-1]
}

func (w *twin) told() string {
	all := slices.Clone(w.entries)
	slices.SortFunc(all, func(a, b entry) int { return slices.Compare([]byte(a.key), []byte(b.key)) })
	s := fmt.Sprint(w.touches)
	for _, x := range all {
		if x.heat > 0 {
			s += fmt.Sprintf(" %q %d", x.key, x.heat)
		}
	}
	return s
}

// number tells one that is small, great or strange.
func (m *mixer) number() int {
	switch m.below(4) {
	case 0:
		return m.below(20)
	case 1:
		return m.below(hottest + 2)
	case 2:
		return m.below(2000)
	}
	return strange()[m.below(len(strange()))]
}

// befall does one thing to both, and tells whether they answer alike.
func befall(mix *mixer, h *heat.Heat, w *twin) bool {
	key := unlike()[mix.below(len(unlike()))]
	switch mix.below(8) {
	case 0:
		half := 1 + mix.below(20)
		if mix.below(6) == 0 {
			half = mix.number()
		}
		h.Cool(half)
		for i, x := range w.entries {
			w.entries[i].heat = cooled(x.heat, half)
		}
	case 1:
		h.Drop(key)
		w.of(key).heat = 0
	case 2:
		return h.Get(key) == w.of(key).heat
	default:
		add, top := mix.number(), mix.number()
		if mix.below(3) > 0 {
			top = hottest
		}
		x := w.of(key)
		x.heat = touched(x.heat, add, top)
		w.touches++
		return h.Touch(key, add, top) == x.heat
	}
	return true
}

func TestScripts(t *testing.T) {
	for seed := range 60 {
		mix := mixer(seed)
		h, w := heat.New(), &twin{}
		for step := range 400 {
			if !befall(&mix, h, w) {
				t.Fatalf("script %d, step %d: an answer is not as the twin's", seed, step)
			}
			if got, want := told(h), w.told(); got != want {
				t.Fatalf("script %d, step %d:\n%s, want\n%s", seed, step, got, want)
			}
		}
	}
}

// What is told hangs on the calls, not on the order of a map: the same calls are answered the same.
func TestTheSameAgain(t *testing.T) {
	script := func() []string {
		mix := mixer(16)
		h, w := heat.New(), &twin{}
		var all []string
		for range 300 {
			befall(&mix, h, w)
			all = append(all, told(h))
		}
		return all
	}
	first := script()
	for range 10 {
		if !slices.Equal(script(), first) {
			t.Fatal("not the same again")
		}
	}
}

// Promise 16.2 (W6): who is not touched is cold behind a number of Cools.

// cools tells how many Cools it takes till key has no heat; each one takes some of it.
func cools(t *testing.T, h *heat.Heat, key string, half int) int {
	t.Helper()
	for n := 0; ; n++ {
		was := h.Get(key)
		if was == 0 {
			return n
		}
		h.Cool(half)
		if now := h.Get(key); now < 0 || now >= was {
			t.Fatalf("Cool(%d) makes %d of %d", half, now, was)
		}
	}
}

// A heat has no more Cools before it than it is: each takes 1 at least.
func TestColdBehindAsManyCools(t *testing.T) {
	for n := range 300 {
		for half := -1; half < 33; half++ {
			got := cools(t, of(t, "k", n), "k", half)
			if got > n {
				t.Fatalf("%d takes %d Cools by %d", n, got, half)
			}
			if half >= 9 && got != n { // shifted, nothing is left of it
				t.Fatalf("%d takes %d Cools by %d, want as many", n, got, half)
			}
		}
	}
}

// The greatest heat, too, comes to its end by each number.
func TestHottestGrowsCold(t *testing.T) {
	for _, x := range [][2]int{{-1, 1}, {0, 1}, {1, 19}, {20, hottest}, {30, hottest}, {31, hottest}} {
		if got := cools(t, of(t, "k", hottest), "k", x[0]); got != x[1] {
			t.Errorf("it takes %d Cools by %d, want %d", got, x[0], x[1])
		}
	}
	for half := 2; half < 20; half++ {
		n := cools(t, of(t, "k", hottest), "k", half)
		if n < 20 || n >= hottest {
			t.Errorf("it takes %d Cools by %d", n, half)
		}
	}
}

// Who is touched again and again stays warm, and keeps nobody else so.
func TestOthersKeepNobodyWarm(t *testing.T) {
	for _, half := range []int{0, 1, 2, 5, 30} {
		h := of(t, "cold", 100, "warm", 100)
		alone := of(t, "cold", 100)
		for alone.Get("cold") > 0 {
			h.Touch("warm", 20, 100)
			h.Cool(half)
			alone.Cool(half)
			if got, want := h.Get("cold"), alone.Get("cold"); got != want {
				t.Fatalf("by %d: %d, want %d, as alone", half, got, want)
			}
			if half > 0 && h.Get("warm") < 8 {
				t.Fatalf("by %d: who is touched is at %d", half, h.Get("warm"))
			}
		}
		heatIs(t, "at the end", h, "cold", 0)
		for range 200 {
			h.Cool(half)
		}
		keysAre(t, "at rest", h)
	}
}

// Promise 16.3: no call panics.

func TestNoCallPanics(t *testing.T) {
	defer func() {
		if p := recover(); p != nil {
			t.Errorf("a call panicked: %v", p)
		}
	}()
	keys := append(unlike(), strings.Repeat("\xff", 1<<16), strings.Repeat("a", 1<<20))
	h := heat.New()
	for _, a := range strange() {
		for _, b := range strange() {
			for _, key := range keys[a&1:] {
				h.Touch(key, a, b)
				h.Get(key)
				if len(key) == 2 {
					h.Drop(key)
				}
			}
			h.Cool(a)
			h.Cool(b)
		}
		h.Keys()
		h.Touches()
		for _, key := range h.Keys() {
			h.Drop(key)
			h.Drop(key)
		}
		h.Cool(a)
	}
}
