package window

import (
	"math"
	"math/big"
	"math/rand"
	"slices"
	"testing"

	"trimtab/api"
)

// prop is a proposal.
type prop struct {
	at int64
	n  int
}

// ticksOff are ticks at which nothing can be noted.
var ticksOff = []int64{math.MinInt64, math.MinInt64 + 1, -1 << 62, -1 << 32, -1800, -1, api.MaxClock + 1, api.MaxClock + 1800, math.MaxInt64 - 1, math.MaxInt64}

// below are numbers below 0.
var below = []int{math.MinInt, math.MinInt + 1, -1 << 32, -1800, -2, -1}

// widths are windows at and around their ends.
var widths = []int{math.MinInt, math.MinInt + 1, -1801, -1800, -1, 0, 1, 2, 3, 5, 900, 1799, 1800, 1801, 3600, 1 << 32, 1<<32 + 1, math.MaxInt - 1, math.MaxInt}

// counts are how many there may be, also such as are none.
var counts = []int{math.MinInt, -1, 0, 1, 2, 3, 4, 5, 6, 7, 8, 9, 10, api.MaxReplicas, api.MaxReplicas + 1, math.MaxInt}

// noted is a memory of proposals, each of which is taken.
func noted(t *testing.T, l ...prop) *Memory {
	t.Helper()
	m := New()
	for _, p := range l {
		if e := m.Note(p.at, p.n); e != api.OK {
			t.Fatalf("Note(%d, %d): %d", p.at, p.n, e)
		}
	}
	return m
}

// at is some proposals at one tick.
func at(tick int64, numbers ...int) []prop {
	var l []prop
	for _, n := range numbers {
		l = append(l, prop{tick, n})
	}
	return l
}

// every is so many proposals from a tick on, each so much above the one ahead;
// the first one is of from, and each one of 1 more.
func every(tick, step int64, many, from int) []prop {
	var l []prop
	for i := range many {
		l = append(l, prop{tick + int64(i)*step, from + i})
	}
	return l
}

// The chapter's words, in numbers without bounds, of all that was ever noted.

// stays are the proposals that don't go.
func stays(all []prop) []prop {
	var l []prop
	for _, p := range all {
		if all[len(all)-1].at-p.at <= 1800 {
			l = append(l, p)
		}
	}
	return l
}

// inside is what of these is within a window.
func inside(l []prop, now int64, window int) []int {
	edge := new(big.Int).Sub(big.NewInt(now), big.NewInt(int64(min(max(window, 0), 1800))))
	var in []int
	for _, p := range l {
		above := big.NewInt(p.at).Cmp(edge) > 0
		if p.at == now || above && p.at < now {
			in = append(in, p.n)
		}
	}
	return in
}

// least and greatest are those of a row, or 0 and false.
func least(l []int) (int, bool) {
	if len(l) == 0 {
		return 0, false
	}
	return slices.Min(l), true
}

func greatest(l []int) (int, bool) {
	if len(l) == 0 {
		return 0, false
	}
	return slices.Max(l), true
}

// stable is the stable number.
func stable(l []prop, now int64, there, up, down int) int {
	low, high := there, there
	if n, ok := least(inside(l, now, up)); ok {
		low = n
	}
	if n, ok := greatest(inside(l, now, down)); ok {
		high = n
	}
	if there < low {
		return low
	}
	if there > high {
		return high
	}
	return there
}

// ticks is of how many ticks there is something.
func ticks(l []prop) int {
	seen := map[int64]int{}
	for _, p := range l {
		seen[p.at]++
	}
	return len(seen)
}

// asked wants that a memory tells of these proposals what the chapter says, at
// a tick, by a window.
func asked(t *testing.T, m *Memory, l []prop, now int64, window int) {
	t.Helper()
	n, ok := m.Least(now, window)
	if want, there := least(inside(l, now, window)); n != want || ok != there {
		t.Fatalf("Least(%d, %d): %d, %v, want %d, %v", now, window, n, ok, want, there)
	}
	n, ok = m.Greatest(now, window)
	if want, there := greatest(inside(l, now, window)); n != want || ok != there {
		t.Fatalf("Greatest(%d, %d): %d, %v, want %d, %v", now, window, n, ok, want, there)
	}
}

// steadied wants that a memory tells the stable number, and P21.2 of it.
func steadied(t *testing.T, m *Memory, l []prop, now int64, there, up, down int) {
	t.Helper()
	got := m.Stable(now, there, up, down)
	if want := stable(l, now, there, up, down); got != want {
		t.Fatalf("Stable(%d, %d, %d, %d): %d, want %d", now, there, up, down, got, want)
	}
	low, ok := m.Least(now, up)
	if !ok {
		low = there
	}
	high, ok := m.Greatest(now, down)
	if !ok {
		high = there
	}
	if got < min(there, high) || got > max(there, low) {
		t.Fatalf("Stable(%d, %d, %d, %d): %d, but low %d, high %d", now, there, up, down, got, low, high)
	}
}

// has wants that a memory is one of all these proposals, by each call that tells
// of them, at each of their ticks and around.
func has(t *testing.T, m *Memory, all []prop) {
	t.Helper()
	l := stays(all)
	if m.Len() != ticks(l) {
		t.Fatalf("Len %d, want %d", m.Len(), ticks(l))
	}
	nows := slices.Concat(ticksOff, []int64{0, 1, api.MaxClock})
	for _, p := range all {
		for _, off := range []int64{-1800, -1, 0, 1, 2, 1799, 1800, 1801} {
			nows = append(nows, p.at+off)
		}
	}
	slices.Sort(nows)
	for _, now := range slices.Compact(nows) {
		for i, w := range widths {
			asked(t, m, l, now, w)
			other := widths[(i+7)%len(widths)]
			for _, there := range counts {
				steadied(t, m, l, now, there, w, other)
			}
		}
	}
}

// P21.1, New, Note, Len

func TestNew(t *testing.T) {
	has(t, New(), nil)
	m := noted(t, prop{7, 3})
	has(t, New(), nil)
	has(t, m, []prop{{7, 3}})
}

func TestNote(t *testing.T) {
	for name, l := range map[string][]prop{
		"one":                at(5, 3),
		"at 0":               at(0, 3),
		"of 0":               at(5, 0),
		"of 0 at 0":          at(0, 0),
		"at the last tick":   at(api.MaxClock, 3),
		"one less":           at(api.MaxClock-1, 3),
		"the greatest":       at(5, math.MaxInt),
		"above all replicas": at(5, api.MaxReplicas+1),
		"beyond 32 bits":     at(5, 1<<32, 1<<33),
		"one number twice":   at(5, 3, 3),
		"up":                 at(5, 3, 4),
		"down":               at(5, 4, 3),
		"between":            at(5, 3, 9, 4),
		"both ends":          at(5, math.MaxInt, 0, 7),
		"the end and back":   at(5, 7, 0, math.MaxInt),
		"up, and far down":   at(5, 4, 6, 2, 5),
		"two ticks":          {{5, 3}, {6, 4}},
		"two ticks at 0":     {{0, 4}, {1, 3}},
		"the last two":       {{api.MaxClock - 1, 4}, {api.MaxClock, 3}},
		"the first and last": {{0, 4}, {api.MaxClock, 3}},
		"many a tick":        slices.Concat(at(5, 3, 1), at(8, 4, 9, 2), at(9, 6), at(15, 5, 5)),
	} {
		t.Run(name, func(t *testing.T) { has(t, noted(t, l...), l) })
	}
}

func TestNoteErrors(t *testing.T) {
	for _, l := range [][]prop{nil, at(0, 3), at(9, 3, 5), {{5, 3}, {9, 4}}, at(api.MaxClock, 3)} {
		m := noted(t, l...)
		for _, tick := range ticksOff {
			for _, n := range []int{math.MinInt, -1, 0, 3, math.MaxInt} {
				if e := m.Note(tick, n); e != api.ErrArg {
					t.Errorf("Note(%d, %d): %d", tick, n, e)
				}
			}
		}
		for _, n := range below { // also at ticks that are stale
			for _, tick := range []int64{0, 4, 8, 9, 10, api.MaxClock} {
				if e := m.Note(tick, n); e != api.ErrArg {
					t.Errorf("Note(%d, %d): %d", tick, n, e)
				}
			}
		}
		has(t, m, l)
	}
}

func TestNoteStale(t *testing.T) {
	for _, l := range [][]prop{at(9, 3), {{5, 3}, {9, 4}}, {{5, 9}, {6, 1}, {5000, 4}}, at(1, 7), at(api.MaxClock, 3)} {
		m := noted(t, l...)
		last := l[len(l)-1].at
		for _, tick := range []int64{0, l[0].at - 1, last - 1801, last - 1800, last - 1, last / 2} {
			if tick < 0 {
				continue
			}
			for _, n := range []int{0, 3, 8, math.MaxInt} {
				if e := m.Note(tick, n); e != api.ErrStale {
					t.Errorf("Note(%d, %d) behind %d: %d", tick, n, last, e)
				}
			}
		}
		has(t, m, l)
		if e := m.Note(last, 2); e != api.OK { // the last one's tick itself is none below it
			t.Errorf("Note(%d, 2): %d", last, e)
		}
		has(t, m, append(slices.Clone(l), prop{last, 2}))
	}
}

// What goes.

func TestNoteLetsGo(t *testing.T) {
	for name, l := range map[string][]prop{
		"one less":       {{5, 3}, {1804, 4}},
		"just":           {{5, 3}, {1805, 4}},
		"one more":       {{5, 3}, {1806, 4}},
		"far":            {{5, 3}, {api.MaxClock, 4}},
		"from 0, just":   {{0, 3}, {1800, 4}},
		"from 0, beyond": {{0, 3}, {1801, 4}},
		"one of two":     {{5, 3}, {6, 9}, {1806, 4}},
		"both":           {{5, 3}, {6, 9}, {1807, 4}},
		"all but one":    {{5, 3}, {6, 9}, {100, 1}, {1900, 4}},
		"some twice":     {{5, 3}, {6, 9}, {1806, 4}, {1807, 1}, {1807, 2}, {3607, 5}, {3608, 6}},
		"at the end":     {{api.MaxClock - 1801, 9}, {api.MaxClock - 1800, 3}, {api.MaxClock, 4}},
	} {
		t.Run(name, func(t *testing.T) { has(t, noted(t, l...), l) })
	}
}

// What went can't be asked for, whatever the tick: the last one counts, not the
// tick that is asked at.
func TestGoesByTheLastOne(t *testing.T) {
	m := noted(t, prop{5, 3}, prop{1000, 9})
	has(t, m, []prop{{5, 3}, {1000, 9}})
	if n, ok := m.Least(5, 0); n != 3 || !ok {
		t.Error(n, ok)
	}
	m.Least(1e6, 1800) // asking lets nothing go
	if m.Len() != 2 {
		t.Error(m.Len())
	}
	m.Note(1806, 7)
	if n, ok := m.Least(5, 0); n != 0 || ok {
		t.Error(n, ok)
	}
	if n, ok := m.Greatest(900, 1800); n != 0 || ok {
		t.Error(n, ok)
	}
	has(t, m, []prop{{5, 3}, {1000, 9}, {1806, 7}})
}

// A memory has at most as many ticks as a period, and the one ahead of it.
func TestLenAtMost(t *testing.T) {
	m := New()
	for tick := range int64(5000) {
		for _, n := range []int{7, int(tick % 13), 5} {
			if e := m.Note(tick, n); e != api.OK {
				t.Fatal(tick, e)
			}
		}
		if want := min(int(tick)+1, 1801); m.Len() != want {
			t.Fatalf("Len at %d: %d, want %d", tick, m.Len(), want)
		}
	}
	if n, ok := m.Least(3199, 0); n != 1 || !ok { // 3199 = 13*246 + 1
		t.Error(n, ok)
	}
	if n, ok := m.Least(3198, 1800); n != 0 || ok {
		t.Error(n, ok)
	}
}

// P21.1, Least, Greatest

func TestLeastAndGreatest(t *testing.T) {
	m := noted(t, prop{10, 5}, prop{12, 2}, prop{12, 8}, prop{15, 6}, prop{20, 4})
	for _, x := range []struct {
		now             int64
		window          int
		least, greatest int
	}{
		{20, 0, 4, 4}, {20, 1, 4, 4}, {20, -1, 4, 4}, {20, math.MinInt, 4, 4},
		{20, 5, 4, 4}, {20, 6, 4, 6}, {20, 8, 4, 6}, {20, 9, 2, 8}, {20, 1800, 2, 8}, {20, math.MaxInt, 2, 8},
		{15, 0, 6, 6}, {15, 3, 6, 6}, {15, 4, 2, 8}, {14, 3, 2, 8}, {12, 0, 2, 8}, {12, 2, 2, 8}, {12, 3, 2, 8},
		{11, 2, 5, 5}, {11, 1800, 5, 5}, {10, 0, 5, 5}, {10, -7, 5, 5},
		{1809, 1800, 2, 8}, {1811, 1800, 2, 8}, {1812, 1800, 4, 6}, {1814, 1800, 4, 6}, {1815, 1800, 4, 4}, {1819, 1800, 4, 4}, {1819, math.MaxInt, 4, 4},
	} {
		if n, ok := m.Least(x.now, x.window); n != x.least || !ok {
			t.Errorf("Least(%d, %d): %d, %v, want %d", x.now, x.window, n, ok, x.least)
		}
		if n, ok := m.Greatest(x.now, x.window); n != x.greatest || !ok {
			t.Errorf("Greatest(%d, %d): %d, %v, want %d", x.now, x.window, n, ok, x.greatest)
		}
	}
}

func TestNothingWithin(t *testing.T) {
	m := noted(t, prop{10, 5}, prop{12, 2})
	for _, x := range []struct {
		now    int64
		window int
	}{
		{9, 1800}, {9, 0}, {0, math.MaxInt}, {-1, 1800}, {math.MinInt64, 1800}, {math.MinInt64, 0}, {math.MinInt64, math.MaxInt},
		{11, 0}, {11, 1}, {11, -1}, {13, 0}, {13, 1}, {15, 3}, {14, math.MinInt},
		{1812, 1800}, {1812, 1801}, {1812, math.MaxInt}, {api.MaxClock, 1800}, {math.MaxInt64, math.MaxInt}, {math.MaxInt64, 0},
	} {
		if n, ok := m.Least(x.now, x.window); n != 0 || ok {
			t.Errorf("Least(%d, %d): %d, %v", x.now, x.window, n, ok)
		}
		if n, ok := m.Greatest(x.now, x.window); n != 0 || ok {
			t.Errorf("Greatest(%d, %d): %d, %v", x.now, x.window, n, ok)
		}
		for _, there := range counts {
			if n := m.Stable(x.now, there, x.window, x.window); n != there {
				t.Errorf("Stable(%d, %d, %d, %d): %d", x.now, there, x.window, x.window, n)
			}
		}
	}
}

// A period's window, at the last one: what is just a period below it is
// remembered, but not within; it is within at a tick below.
func TestJustAPeriod(t *testing.T) {
	m := noted(t, prop{100, 3}, prop{101, 6}, prop{1900, 9})
	if m.Len() != 3 {
		t.Error(m.Len())
	}
	if n, ok := m.Least(1900, 1800); n != 6 || !ok {
		t.Error(n, ok)
	}
	if n, ok := m.Least(1899, 1800); n != 3 || !ok {
		t.Error(n, ok)
	}
	if n, ok := m.Greatest(1899, math.MaxInt); n != 6 || !ok {
		t.Error(n, ok)
	}
}

// P21.1, Stable

func TestStable(t *testing.T) {
	m := noted(t, prop{10, 5}, prop{12, 2})
	for _, x := range []struct {
		now                   int64
		there, up, down, want int
	}{
		{12, 4, 0, 5, 4}, // the chapter's example
		{12, 1, 0, 5, 2}, {12, 2, 0, 5, 2}, {12, 3, 0, 5, 3}, {12, 5, 0, 5, 5}, {12, 6, 0, 5, 5}, {12, 9, 0, 5, 5},
		{12, 4, 5, 0, 2}, {12, 3, 5, 0, 2}, {12, 2, 5, 0, 2}, {12, 1, 5, 0, 2}, {12, 0, 5, 0, 2},
		{11, 4, 0, 2, 4}, {11, 6, 0, 2, 5}, {11, 4, 2, 0, 5}, {11, 5, 2, 0, 5}, {11, 6, 2, 0, 6},
		{10, 4, 0, 0, 5}, {10, 6, 0, 0, 5}, {10, 5, 0, 0, 5},
		{12, -3, 0, 0, 2}, {12, math.MinInt, 5, 5, 2}, {12, math.MaxInt, 5, 5, 5}, {12, math.MaxInt, 5, 2, 2},
		{12, 4, math.MinInt, math.MaxInt, 4}, {12, 9, math.MinInt, math.MaxInt, 5}, {12, 9, math.MaxInt, math.MinInt, 2},
		{1809, 1, 1800, 0, 2}, {1809, 9, 0, 1800, 5}, {1810, 9, 0, 1800, 2}, {1811, 9, 1800, 1800, 2}, {1812, 9, 1800, 1800, 9},
	} {
		if n := m.Stable(x.now, x.there, x.up, x.down); n != x.want {
			t.Errorf("Stable(%d, %d, %d, %d): %d, want %d", x.now, x.there, x.up, x.down, n, x.want)
		}
	}
}

// By the up window fewer are never too many, by the down window more are never
// too few: each window keeps back its own way alone.
func TestStableKeepsBack(t *testing.T) {
	m := noted(t, prop{10, 3}, prop{20, 9})
	if n := m.Stable(20, 3, 11, 0); n != 3 { // 3 was within the up window: no growth yet
		t.Error(n)
	}
	if n := m.Stable(20, 3, 10, 0); n != 9 {
		t.Error(n)
	}
	m = noted(t, prop{10, 9}, prop{20, 3})
	if n := m.Stable(20, 9, 0, 11); n != 9 { // 9 was within the down window: nothing goes yet
		t.Error(n)
	}
	if n := m.Stable(20, 9, 0, 10); n != 3 {
		t.Error(n)
	}
}

// P21.1, Copy

func TestCopyApart(t *testing.T) {
	for _, l := range [][]prop{nil, at(5, 3), at(5, 3, 8), {{5, 3}, {6, 4}, {9, 1}}, every(5, 200, 9, 3)} {
		m := noted(t, l...)
		c := m.Copy()
		has(t, c, l)
		more := append(slices.Clone(l), at(1700, 0, 9)...)
		for _, p := range more[len(l):] {
			c.Note(p.at, p.n)
		}
		has(t, m, l)
		has(t, c, more)
		other := append(slices.Clone(l), at(4000, 6)...)
		m.Note(4000, 6)
		has(t, m, other)
		has(t, c, more)
	}
}

// A copy's last tick is the memory's own in numbers alone.
func TestCopyLastTick(t *testing.T) {
	m := noted(t, prop{5, 3})
	c := m.Copy()
	m.Note(5, 1)
	m.Note(5, 9)
	has(t, c, at(5, 3))
	has(t, m, at(5, 3, 1, 9))
	if e := c.Note(4, 3); e != api.ErrStale {
		t.Error(e)
	}
	c.Note(6, 4)
	m.Note(6, 7)
	has(t, c, []prop{{5, 3}, {6, 4}})
	has(t, m, append(at(5, 3, 1, 9), prop{6, 7}))
}

// P21.1, nil

func TestNil(t *testing.T) {
	var m *Memory
	for _, tick := range slices.Concat(ticksOff, []int64{0, 5, api.MaxClock}) {
		for _, n := range counts {
			if e := m.Note(tick, n); e != api.ErrArg {
				t.Errorf("Note(%d, %d): %d", tick, n, e)
			}
			for _, w := range widths {
				asked(t, m, nil, tick, w)
				if got := m.Stable(tick, n, w, -w); got != n {
					t.Errorf("Stable(%d, %d, %d, %d): %d", tick, n, w, -w, got)
				}
			}
		}
	}
	if m.Len() != 0 || m.Copy() != nil {
		t.Error(m.Len(), m.Copy())
	}
}

// P21.2, and chance rows

// walk notes a chance row of proposals, some of them stale or wrong, and holds
// the memory against all that was taken.
func walk(t *testing.T, r *rand.Rand, step int64, steps int) {
	t.Helper()
	m, tick := New(), r.Int63n(5)
	var all []prop
	for range steps {
		tick += r.Int63n(step + 1)
		p := prop{tick - max(0, r.Int63n(4)-2), r.Intn(12) - 1}
		want := api.OK
		switch {
		case p.at < 0 || p.n < 0:
			want = api.ErrArg
		case len(all) > 0 && p.at < all[len(all)-1].at:
			want = api.ErrStale
		}
		if e := m.Note(p.at, p.n); e != want {
			t.Fatalf("Note(%d, %d): %d, want %d", p.at, p.n, e, want)
		}
		if want == api.OK {
			all = append(all, p)
		}
		chance(t, r, m, all, tick, step)
	}
}

// chance asks at chance ticks and windows.
func chance(t *testing.T, r *rand.Rand, m *Memory, all []prop, tick, step int64) {
	t.Helper()
	l := stays(all)
	if m.Len() != ticks(l) {
		t.Fatalf("Len %d, want %d", m.Len(), ticks(l))
	}
	for range 4 {
		now := tick + r.Int63n(8*step+1) - 6*step
		up, down := r.Intn(int(8*step+3))-1, r.Intn(int(8*step+3))-1
		asked(t, m, l, now, up)
		steadied(t, m, l, now, r.Intn(14)-1, up, down)
	}
}

func TestChance(t *testing.T) {
	r := rand.New(rand.NewSource(21))
	for _, step := range []int64{0, 1, 2, 5, 40, 300, 1000, 1801, 4000} {
		for range 12 {
			walk(t, r, step, 120)
		}
	}
}

// A memory that lets go at each step tells as one that was told no more than
// what is left.
func TestLetGoLeavesNothing(t *testing.T) {
	all := every(0, 1, 4000, 0)
	m, c := noted(t, all...), noted(t, stays(all)...)
	for now := int64(2100); now < 6000; now += 97 {
		for _, w := range widths {
			n, ok := m.Least(now, w)
			if k, there := c.Least(now, w); n != k || ok != there {
				t.Fatalf("Least(%d, %d): %d, %v, want %d, %v", now, w, n, ok, k, there)
			}
			asked(t, m, stays(all), now, w)
		}
	}
	if m.Len() != 1801 || c.Len() != 1801 || m.Copy().Len() != 1801 {
		t.Error(m.Len(), c.Len())
	}
}

// Asking changes nothing, and tells the same each time.
func TestAskingChangesNothing(t *testing.T) {
	l := slices.Concat(at(5, 3, 7), at(9, 1), at(1700, 4, 2))
	m := noted(t, l...)
	for range 3 {
		has(t, m, l)
	}
	if e := m.Note(1700, 8); e != api.OK {
		t.Error(e)
	}
	has(t, m, append(l, prop{1700, 8}))
}
