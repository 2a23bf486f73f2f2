package ring

import (
	"math"
	"math/rand"
	"slices"
	"testing"

	"trimtab/api"
)

// noMost are numbers of which no ring is.
var noMost = []int{math.MinInt, -256, -32, -1, 0, 33, 34, 64, 256, 1 << 32, 1<<32 + 1, math.MaxInt}

// noTicks are below 0.
var noTicks = []int64{math.MinInt64, math.MinInt64 + 1, -1 << 32, -256, -2, -1}

// bounds are ticks at which Since and Cut are asked, beside those that there are.
var bounds = []int64{math.MinInt64, -1, 0, 1, 1 << 31, 1 << 32, api.MaxClock, api.MaxClock + 1, math.MaxInt64 - 1, math.MaxInt64}

func fresh[T any](t *testing.T, most int) *Ring[T] {
	t.Helper()
	r, e := New[T](most)
	if r == nil || e != api.OK {
		t.Fatalf("New(%d): %v, %d", most, r, e)
	}
	return r
}

// put puts samples in, each with its tick as its value.
func put(t *testing.T, r *Ring[int64], ticks ...int64) {
	t.Helper()
	for _, at := range ticks {
		if e := r.Put(at, at); e != api.OK {
			t.Fatalf("Put(%d): %d", at, e)
		}
	}
}

// made is a ring of at most so many, with samples.
func made(t *testing.T, most int, ticks ...int64) *Ring[int64] {
	t.Helper()
	r := fresh[int64](t, most)
	put(t, r, ticks...)
	return r
}

// samples are those of ticks, each with its tick as its value.
func samples(ticks ...int64) []Sample[int64] {
	var l []Sample[int64]
	for _, at := range ticks {
		l = append(l, Sample[int64]{at, at})
	}
	return l
}

// has wants that a ring has just these samples, by each call that tells of them.
func has[T comparable](t *testing.T, r *Ring[T], want []Sample[T]) {
	t.Helper()
	if r.Len() != len(want) {
		t.Fatalf("Len %d, want %d", r.Len(), len(want))
	}
	last, there := r.Last()
	if there != (len(want) > 0) || there && last != want[len(want)-1] || !there && last != (Sample[T]{}) {
		t.Fatalf("Last %v, %v, of %v", last, there, want)
	}
	ticks := slices.Clone(bounds)
	for _, s := range want {
		ticks = append(ticks, s.At-1, s.At, s.At+1)
	}
	for _, at := range ticks {
		got := slices.Collect(r.Since(at))
		if !slices.Equal(got, since(want, at)) {
			t.Fatalf("Since(%d): %v, of %v", at, got, want)
		}
	}
}

// since are those of a row of samples from a tick on.
func since[T any](l []Sample[T], at int64) []Sample[T] {
	var got []Sample[T]
	for _, s := range l {
		if s.At >= at {
			got = append(got, s)
		}
	}
	return got
}

// rising are so many ticks, from one on, each so much above the one ahead.
func rising(from, step int64, many int) []int64 {
	var l []int64
	for i := range many {
		l = append(l, from+int64(i)*step)
	}
	return l
}

// P10.1, New

func TestNew(t *testing.T) {
	for most := 1; most <= api.MaxRing; most++ {
		has(t, fresh[int64](t, most), nil)
		has(t, fresh[string](t, most), nil)
	}
}

func TestNewErrors(t *testing.T) {
	for _, most := range noMost {
		if r, e := New[int64](most); r != nil || e != api.ErrArg {
			t.Errorf("New(%d): %v, %d", most, r, e)
		}
		if r, e := New[any](most); r != nil || e != api.ErrArg {
			t.Errorf("New(%d): %v, %d", most, r, e)
		}
	}
}

// P10.1, Put

func TestPut(t *testing.T) {
	for most := 1; most <= api.MaxRing; most++ {
		for _, step := range []int64{1, 2, 1000, 1 << 40} {
			ticks := rising(0, step, 3*most+1)
			r := fresh[int64](t, most)
			for i := range ticks {
				put(t, r, ticks[i])
				has(t, r, samples(ticks[max(0, i+1-most):i+1]...))
			}
		}
	}
}

// TestPutExample: of at most 2, put at 1, 2, 3: left are 2, 3.
func TestPutExample(t *testing.T) {
	has(t, made(t, 2, 1, 2, 3), samples(2, 3))
}

// TestPutAtEnds: each tick from 0 to the greatest of its type may be.
func TestPutAtEnds(t *testing.T) {
	for _, at := range bounds[2:] {
		has(t, made(t, 1, at), samples(at))
	}
	has(t, made(t, 32, bounds[2:]...), samples(bounds[2:]...))
	has(t, made(t, 3, bounds[2:]...), samples(bounds[len(bounds)-3:]...))
}

func TestPutErrors(t *testing.T) {
	for most := 1; most <= api.MaxRing; most++ {
		for many := range 2*most + 1 {
			ticks := rising(5, 3, many)
			r := made(t, most, ticks...)
			left := samples(ticks[max(0, many-most):]...)
			for _, at := range noTicks { // of a ring that has some, below the last one too
				refused(t, r, at, api.ErrArg, left)
			}
			if many == 0 {
				continue
			}
			last := ticks[many-1]
			for _, at := range []int64{last, last - 1, last - 2, last - 3, 4, 1, 0} {
				if at <= last {
					refused(t, r, at, api.ErrStale, left)
				}
			}
			put(t, r, last+1)
		}
	}
}

// refused wants an error of Put, and that the ring stays as it was.
func refused(t *testing.T, r *Ring[int64], at int64, want api.Errno, left []Sample[int64]) {
	t.Helper()
	if e := r.Put(at, 77); e != want {
		t.Fatalf("Put(%d): %d, want %d, of %v", at, e, want, left)
	}
	has(t, r, left)
}

// TestPutBehindTheGreatest: nothing comes above the greatest tick.
func TestPutBehindTheGreatest(t *testing.T) {
	r := made(t, 2, 1, 2, math.MaxInt64)
	for _, at := range []int64{0, 2, 3, api.MaxClock, math.MaxInt64 - 1, math.MaxInt64} {
		refused(t, r, at, api.ErrStale, samples(2, math.MaxInt64))
	}
	refused(t, r, math.MinInt64, api.ErrArg, samples(2, math.MaxInt64))
}

// TestPutAnyValue: a value is handed on, whatever it is.
func TestPutAnyValue(t *testing.T) {
	texts := fresh[string](t, 2)
	for i, x := range []string{"eldest", "", "\x00\xff"} {
		texts.Put(int64(i), x)
	}
	has(t, texts, []Sample[string]{{1, ""}, {2, "\x00\xff"}})
	quantities := fresh[api.Milli](t, 3)
	for i, x := range []api.Milli{math.MinInt64, math.MaxInt64, 0} {
		quantities.Put(int64(i), x)
	}
	has(t, quantities, []Sample[api.Milli]{{0, math.MinInt64}, {1, math.MaxInt64}, {2, 0}})
	anything := fresh[any](t, 3)
	for i, x := range []any{nil, 7, "x"} {
		anything.Put(int64(i), x)
	}
	has(t, anything, []Sample[any]{{0, nil}, {1, 7}, {2, "x"}})
	nothing := fresh[struct{}](t, 1)
	nothing.Put(3, struct{}{})
	nothing.Put(4, struct{}{})
	has(t, nothing, []Sample[struct{}]{{At: 4}})
	rings := fresh[Ring[*int]](t, 1)
	if e := rings.Put(0, Ring[*int]{}); e != api.OK || rings.Len() != 1 {
		t.Error(e, rings.Len())
	}
}

// P10.1, Since

// TestSinceTwice: an iterator tells the same each time it is gone through.
func TestSinceTwice(t *testing.T) {
	r := made(t, 5, rising(0, 10, 7)...)
	for _, at := range []int64{-1, 20, 25, 30, 60, 61} {
		told := r.Since(at)
		want := since(samples(20, 30, 40, 50, 60), at)
		for range 3 {
			if got := slices.Collect(told); !slices.Equal(got, want) {
				t.Fatalf("Since(%d): %v, want %v", at, got, want)
			}
		}
	}
}

// TestSinceBrokenOff: one that isn't gone through to its end stops there, and
// begins from the first one again.
func TestSinceBrokenOff(t *testing.T) {
	r := made(t, 5, rising(0, 10, 7)...)
	told := r.Since(30)
	for stop := range 4 {
		var got []Sample[int64]
		for s := range told {
			got = append(got, s)
			if len(got) > stop {
				break
			}
		}
		if !slices.Equal(got, samples(30, 40, 50, 60)[:stop+1]) {
			t.Fatal(stop, got)
		}
	}
}

// TestSinceWithin: one iterator is gone through within another, and within itself.
func TestSinceWithin(t *testing.T) {
	r := made(t, 3, 1, 2, 3, 4)
	told, n := r.Since(2), 0
	for a := range told {
		for b := range told {
			n += int(10*a.Value + b.Value)
		}
		for b := range r.Since(a.At) {
			n += 1000 * int(b.At)
		}
	}
	if n != 10*3*9+3*9+1000*(9+7+4) {
		t.Error(n)
	}
}

// TestSinceMeanwhile: what becomes of samples that were told changes nothing of
// those that come behind them.
func TestSinceMeanwhile(t *testing.T) {
	for name, change := range map[string]func(r *Ring[int64], told int64){
		"cut what was told": func(r *Ring[int64], told int64) { r.Cut(told + 1) },
		"cut ahead of it":   func(r *Ring[int64], told int64) { r.Cut(told) },
		"drive out":         func(r *Ring[int64], told int64) { r.Put(told+1000, 0) },
		"refused":           func(r *Ring[int64], told int64) { r.Put(told, 0); r.Put(-1, 0) },
		"ask":               func(r *Ring[int64], told int64) { r.Last(); r.Len(); r.Copy().Cut(math.MaxInt64) },
	} {
		for puts := 4; puts < 9; puts++ {
			r := made(t, 4, rising(0, 10, puts)...)
			want := slices.Collect(r.Since(0))
			var got []Sample[int64]
			for s := range r.Since(0) {
				got = append(got, s)
				change(r, s.At)
			}
			if !slices.Equal(got, want) {
				t.Fatalf("%s: %v, want %v", name, got, want)
			}
		}
	}
}

// P10.1, Last and Len

func TestLast(t *testing.T) {
	r := fresh[string](t, 2)
	for _, x := range []Sample[string]{{0, "a"}, {7, "b"}, {8, ""}, {99, "d"}} {
		r.Put(x.At, x.Value)
		if got, there := r.Last(); got != x || !there {
			t.Fatal(got, there, x)
		}
	}
	r.Cut(100)
	if got, there := r.Last(); got != (Sample[string]{}) || there {
		t.Fatal(got, there)
	}
}

// P10.1, Cut

func TestCut(t *testing.T) {
	for most := 1; most <= 9; most++ {
		for many := range 3*most + 1 {
			ticks := rising(10, 10, many)
			left := samples(ticks[max(0, many-most):]...)
			for at := int64(0); at <= int64(10*many+20); at += 5 {
				r := made(t, most, ticks...)
				want := since(left, at)
				if n := r.Cut(at); n != len(left)-len(want) {
					t.Fatalf("Cut(%d): %d, of %v", at, n, left)
				}
				has(t, r, want)
				if n := r.Cut(at); n != 0 {
					t.Fatalf("Cut(%d) again: %d, of %v", at, n, left)
				}
				has(t, r, want)
			}
		}
	}
}

func TestCutAtEnds(t *testing.T) {
	r := made(t, 9, 0, 5, math.MaxInt64)
	for _, x := range []struct {
		at   int64
		gone int
		left []int64
	}{
		{math.MinInt64, 0, []int64{0, 5, math.MaxInt64}},
		{-1, 0, []int64{0, 5, math.MaxInt64}},
		{0, 0, []int64{0, 5, math.MaxInt64}},
		{1, 1, []int64{5, math.MaxInt64}},
		{math.MaxInt64, 1, []int64{math.MaxInt64}}, // none is above it: so it stays
		{math.MaxInt64, 0, []int64{math.MaxInt64}},
	} {
		if n := r.Cut(x.at); n != x.gone {
			t.Fatalf("Cut(%d): %d, want %d", x.at, n, x.gone)
		}
		has(t, r, samples(x.left...))
	}
}

// TestPutBehindCut: what is left stays held against new ticks; where nothing is
// left, there is no last one that a tick must be above.
func TestPutBehindCut(t *testing.T) {
	for most := 2; most <= 6; most++ {
		for many := 2; many <= 3*most; many++ {
			ticks := rising(10, 10, many)
			last := ticks[many-1]
			r := made(t, most, ticks...)
			r.Cut(last)
			refused(t, r, last, api.ErrStale, samples(last))
			refused(t, r, 0, api.ErrStale, samples(last))
			put(t, r, last+1)
			has(t, r, samples(last, last+1))
			if n := r.Cut(last + 2); n != 2 {
				t.Fatal(n)
			}
			refused(t, r, -1, api.ErrArg, nil)
			put(t, r, 0)
			has(t, r, samples(0))
			put(t, r, rising(1, 1, most)...)
			has(t, r, samples(rising(1, 1, most)...))
		}
	}
}

// P10.1, Copy

// TestCopy: what becomes of one isn't told by the other; and each goes on at as
// many as the first one may have.
func TestCopy(t *testing.T) {
	for most := 1; most <= 8; most++ {
		for many := range 2*most + 2 {
			ticks := rising(0, 10, many)
			left := samples(ticks[max(0, many-most):]...)
			r := made(t, most, ticks...)
			c := r.Copy()
			has(t, c, left)
			r.Cut(math.MaxInt64)
			put(t, r, rising(3, 1, most)...)
			has(t, c, left)
			kept := samples(rising(3, 1, most)...)
			for i, at := range rising(1000, 1, 2*most) {
				put(t, c, at)
				all := append(slices.Clone(left), samples(rising(1000, 1, i+1)...)...)
				has(t, c, all[max(0, len(all)-most):])
			}
			has(t, r, kept)
			c.Cut(math.MaxInt64)
			has(t, r, kept)
			has(t, c, nil)
			has(t, r.Copy().Copy(), kept)
		}
	}
}

// P10.1, nil

func TestNilRing(t *testing.T) {
	var r *Ring[string]
	for _, at := range append(slices.Clone(noTicks), bounds...) {
		if e := r.Put(at, "x"); e != api.ErrArg {
			t.Error(at, e)
		}
		for s := range r.Since(at) {
			t.Error(at, s)
		}
		if n := r.Cut(at); n != 0 {
			t.Error(at, n)
		}
	}
	if s, there := r.Last(); s != (Sample[string]{}) || there {
		t.Error(s, there)
	}
	if r.Len() != 0 || r.Copy() != nil {
		t.Error(r.Len(), r.Copy())
	}
}

// TestNotMade: one that New didn't make has no room, and no call panics.
func TestNotMade(t *testing.T) {
	var r Ring[int]
	for _, at := range []int64{-1, 0, 5, math.MaxInt64} {
		if e := r.Put(at, 1); e != api.ErrArg || r.Cut(at) != 0 {
			t.Error(at, e)
		}
	}
	has(t, &r, nil)
	has(t, r.Copy(), nil)
}

// P10.1, all together

// TestAgainstARow holds rings against rows that do the same.
func TestAgainstARow(t *testing.T) {
	chance := rand.New(rand.NewSource(1))
	for most := 1; most <= api.MaxRing; most++ {
		r := fresh[int64](t, most)
		var row []Sample[int64]
		for step := range int64(200) {
			end := int64(0)
			if len(row) > 0 {
				end = row[len(row)-1].At
			}
			at := end + chance.Int63n(9) - 2
			if chance.Intn(8) > 0 {
				want := api.OK
				if at < 0 {
					want = api.ErrArg
				} else if len(row) > 0 && at <= end {
					want = api.ErrStale
				}
				if e := r.Put(at, step); e != want {
					t.Fatalf("Put(%d): %d, want %d, of %v", at, e, want, row)
				}
				if want == api.OK {
					row = append(row, Sample[int64]{at, step})
					row = row[max(0, len(row)-most):]
				}
			} else {
				at -= chance.Int63n(6 * int64(most))
				left := since(row, at)
				if n := r.Cut(at); n != len(row)-len(left) {
					t.Fatalf("Cut(%d): %d, of %v", at, n, row)
				}
				row = left
			}
			if chance.Intn(20) == 0 {
				r = r.Copy()
			}
			has(t, r, row)
		}
	}
}

// P10.2

// TestValuesAreHandedOn: what a value points at is the one that was put, both
// in the ring and in its copy; nothing of it is changed.
func TestValuesAreHandedOn(t *testing.T) {
	x, y := []int{1, 2, 3}, []int{4}
	r := fresh[[]int](t, 2)
	r.Put(1, x[:1])
	r.Put(2, y)
	for _, told := range []*Ring[[]int]{r, r.Copy()} {
		l := slices.Collect(told.Since(0))
		if &l[0].Value[0] != &x[0] || len(l[0].Value) != 1 || &l[1].Value[0] != &y[0] {
			t.Error(l)
		}
		if last, _ := told.Last(); &last.Value[0] != &y[0] {
			t.Error(last)
		}
	}
	r.Put(3, nil)
	r.Cut(9)
	if !slices.Equal(x, []int{1, 2, 3}) || !slices.Equal(y, []int{4}) {
		t.Error(x, y)
	}
}

// TestMemoryOfAnswers spoils what was answered: the ring has what it had.
func TestMemoryOfAnswers(t *testing.T) {
	r := made(t, 3, 1, 2, 3, 4)
	for s := range r.Since(0) {
		s.At, s.Value = 99, 99
	}
	l := slices.Collect(r.Since(0))
	for i := range l[:cap(l)] {
		l[:cap(l)][i] = Sample[int64]{99, 99}
	}
	last, _ := r.Last()
	last.At, last.Value = 99, 99
	has(t, r, samples(2, 3, 4))
}

// TestNothingIsKept: of what was driven out, or cut, nothing stays in the room.
func TestNothingIsKept(t *testing.T) {
	for most := 1; most <= 5; most++ {
		for cut := range 2*most + 3 {
			r := fresh[*int](t, most)
			for i := range 2*most + 1 {
				r.Put(int64(i), new(i))
			}
			r.Cut(int64(cut))
			kept := 0
			for _, s := range r.room {
				if s.Value == nil {
					continue
				}
				kept++
				if *s.Value < max(cut, most+1) {
					t.Fatal(most, cut, *s.Value)
				}
			}
			if kept != r.Len() {
				t.Fatal(most, cut, kept, r.Len())
			}
		}
	}
}
