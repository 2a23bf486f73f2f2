package rate

import (
	"math"
	"math/big"
	"math/rand"
	"slices"
	"testing"

	"trimtab/api"
	"trimtab/ring"
)

type sample = ring.Sample[api.Milli]

const (
	most     = api.Milli(api.MaxMilli)
	lastTick = int64(math.MaxInt64)
	noTick   = int64(math.MinInt64)
)

// noValues are values that aren't right.
var noValues = []api.Milli{math.MinInt64, math.MinInt64 + 1, -most - 1, -most, -1000, -1, most + 1, most + 2, 2 * most, math.MaxInt64 - 1, math.MaxInt64}

// one is a value at a tick.
func one(at int64, m api.Milli) sample { return sample{At: at, Value: m} }

// row is samples at ticks from 0 on, each one above the one ahead.
func row(values ...api.Milli) []sample { return spaced(0, 1, values...) }

// spaced is samples at ticks from one on, each so much above the one ahead.
func spaced(from, apart int64, values ...api.Milli) []sample {
	var l []sample
	for i, m := range values {
		l = append(l, one(from+int64(i)*apart, m))
	}
	return l
}

// ends is two samples at ticks.
func ends(first, last int64, a, b api.Milli) []sample {
	return []sample{one(first, a), one(last, b)}
}

// wants asks all calls of a row.
func wants(t *testing.T, l []sample, increase, rate api.Milli, e api.Errno, resets int) {
	t.Helper()
	if m, err := Increase(l); m != increase || err != e {
		t.Errorf("Increase(%v): %d, %d, want %d, %d", brief(l), m, err, increase, e)
	}
	if m, err := Rate(l); m != rate || err != e {
		t.Errorf("Rate(%v): %d, %d, want %d, %d", brief(l), m, err, rate, e)
	}
	if n := Resets(l); n != resets {
		t.Errorf("Resets(%v): %d, want %d", brief(l), n, resets)
	}
}

// fails wants an error of both Increase and Rate, and no quantity beside it.
func fails(t *testing.T, l []sample, e api.Errno) {
	t.Helper()
	if m, err := Increase(l); m != 0 || err != e {
		t.Errorf("Increase(%v): %d, %d, want 0, %d", brief(l), m, err, e)
	}
	if m, err := Rate(l); m != 0 || err != e {
		t.Errorf("Rate(%v): %d, %d, want 0, %d", brief(l), m, err, e)
	}
}

// brief is as much of a row as a message can bear.
func brief(l []sample) []sample { return l[:min(len(l), 8)] }

// expected is what should be answered of a row, worked out without a bound.
func expected(l []sample) (increase, rate api.Milli, e api.Errno, resets int) {
	wrong, sum, limit := false, new(big.Int), big.NewInt(api.MaxMilli)
	for i, s := range l {
		if s.Value < 0 || big.NewInt(int64(s.Value)).Cmp(limit) > 0 {
			wrong = true
		}
		if i == 0 {
			continue
		}
		ahead := l[i-1]
		if ahead.At >= s.At {
			wrong = true
		}
		sum.Add(sum, big.NewInt(int64(s.Value)))
		if s.Value < ahead.Value {
			resets++
			continue
		}
		sum.Sub(sum, big.NewInt(int64(ahead.Value)))
	}
	switch {
	case wrong:
		return 0, 0, api.ErrArg, resets
	case len(l) < 2:
		return 0, 0, api.ErrFew, resets
	case sum.Cmp(limit) > 0:
		return 0, 0, api.ErrRange, resets
	}
	ticks := new(big.Int).Sub(big.NewInt(l[len(l)-1].At), big.NewInt(l[0].At))
	increase = api.Milli(sum.Int64())
	return increase, api.Milli(sum.Div(sum, ticks).Int64()), api.OK, resets
}

// P12.1, what goes well

func TestExample(t *testing.T) {
	l := []sample{one(0, 10), one(10, 15), one(20, 3)}
	wants(t, l, 8, 0, api.OK, 1)
}

func TestTable(t *testing.T) {
	for _, c := range []struct {
		l              []sample
		increase, rate api.Milli
		resets         int
	}{
		{row(0, 0), 0, 0, 0},
		{row(0, 1), 1, 1, 0},
		{row(1, 0), 0, 0, 1},
		{row(1, 1), 0, 0, 0},
		{row(7, 9), 2, 2, 0},
		{row(9, 7), 7, 7, 1},
		{row(9, 9, 9, 9), 0, 0, 0},
		{row(9, 8, 7, 6), 21, 7, 3},
		{row(5, 0, 5), 5, 2, 1},
		{row(5, 0, 0, 5), 5, 1, 1},
		{row(0, 5, 0, 5, 0, 5), 15, 3, 2},
		{row(100, 150, 30, 30, 80, 10, 11), 50 + 30 + 0 + 50 + 10 + 1, 23, 2},
		// what there was at first counts for nothing
		{row(1000, 1001), 1, 1, 0},
		// rounded down, not to the nearest
		{ends(0, 4, 0, 7), 7, 1, 0},
		{ends(0, 4, 0, 8), 8, 2, 0},
		{ends(0, 4, 0, 3), 3, 0, 0},
		{ends(0, 1000, 0, 999), 999, 0, 0},
		{ends(0, 1000, 0, 1000), 1000, 1, 0},
		// by the ticks between, not by how many samples there are, or by the last tick
		{spaced(100, 10, 0, 30, 60), 60, 3, 0},
		{[]sample{one(1000, 0), one(1001, 50), one(1050, 100)}, 100, 2, 0},
		{[]sample{one(1000, 0), one(1049, 50), one(1050, 100)}, 100, 2, 0},
	} {
		wants(t, c.l, c.increase, c.rate, api.OK, c.resets)
	}
}

// TestGreatest: quantities, and increases, may be as great as MaxMilli.
func TestGreatest(t *testing.T) {
	wants(t, row(0, most), most, most, api.OK, 0)
	wants(t, row(most, most), 0, 0, api.OK, 0)
	wants(t, row(most, 0), 0, 0, api.OK, 1)
	wants(t, row(most, most-1), most-1, most-1, api.OK, 1)
	wants(t, row(most, most-1, most), most, most/2, api.OK, 1)
	wants(t, row(0, most, 0), most, most/2, api.OK, 1)
	wants(t, row(0, most-1, 1), most, most/2, api.OK, 1)
	wants(t, row(0, most/2, 0, most/2), most, most/3, api.OK, 1)
	wants(t, row(1, most, 1, 1), most, most/3, api.OK, 1)
}

// TestTicksAtEnds: the ticks between two of them may be beyond an int64.
func TestTicksAtEnds(t *testing.T) {
	for _, c := range []struct {
		first, last int64
		b, rate     api.Milli
	}{
		{0, lastTick, most, 0},
		{0, api.MaxClock, most, 0},
		{noTick, lastTick, most, 0},
		{noTick, 0, most, 0},
		{noTick, -1, most, 0},
		{-1, lastTick, most, 0},
		{lastTick - 1, lastTick, most, most},
		{lastTick - 3, lastTick, 7, 2},
		{noTick, noTick + 1, most, most},
		{noTick, noTick + 3, 7, 2},
		{-1, 0, most, most},
		{-1, 1, 7, 3},
		{-2, -1, 7, 7},
		{0, 1 << 32, most, 1 << 21},
		{0, 1<<32 + 1, most, 1<<21 - 1},
		{1, 1<<53 + 1, most, 1},
		{0, 1<<53 + 1, most, 0},
		{0, 1 << 53, most - 1, 0},
		{-1 << 52, 1 << 52, most, 1},
		{api.MaxClock - 2, api.MaxClock + 2, 11, 2},
	} {
		wants(t, ends(c.first, c.last, 0, c.b), c.b, c.rate, api.OK, 0)
		wants(t, ends(c.first, c.last, most, c.b-1), c.b-1, api.Milli(uint64(c.b-1)/(uint64(c.last)-uint64(c.first))), api.OK, 1)
	}
	wants(t, []sample{one(noTick, 3), one(-1, 9), one(0, 2), one(lastTick, 4)}, 10, 0, api.OK, 1)
}

// TestOfRing: what a ring tells may be asked for.
func TestOfRing(t *testing.T) {
	r, _ := ring.New[api.Milli](4)
	for i, m := range []api.Milli{500, 10, 15, 3, 9} {
		if e := r.Put(int64(10*i), m); e != api.OK {
			t.Fatal(e)
		}
	}
	wants(t, slices.Collect(r.Since(0)), 5+3+6, 0, api.OK, 1)
	wants(t, slices.Collect(r.Since(30)), 6, 0, api.OK, 0)
	wants(t, slices.Collect(r.Since(41)), 0, 0, api.ErrFew, 0)
}

// TestLongRows: a row may be longer than a ring is.
func TestLongRows(t *testing.T) {
	for _, many := range []int{31, 32, 33, 34, 255, 256, 257, 1025, 70001} {
		var up, down []api.Milli
		for i := range many {
			up = append(up, api.Milli(3*i))
			down = append(down, api.Milli(many-1-i))
		}
		ups := api.Milli(many - 1)
		wants(t, row(up...), 3*ups, 3, api.OK, 0)
		wants(t, row(down...), ups*(ups-1)/2, (ups-1)/2, api.OK, many-1)
	}
}

// P12.1, errors

func TestFew(t *testing.T) {
	wants(t, nil, 0, 0, api.ErrFew, 0)
	wants(t, []sample{}, 0, 0, api.ErrFew, 0)
	for _, at := range []int64{noTick, -1, 0, 1, api.MaxClock, lastTick} {
		for _, m := range []api.Milli{0, 1, 1000, most} {
			wants(t, ends(at, at, m, m)[:1], 0, 0, api.ErrFew, 0)
		}
	}
}

// TestValuesThatArentRight stand at each place of rows, also of too short ones.
func TestValuesThatArentRight(t *testing.T) {
	for _, no := range noValues {
		for many := 1; many <= 6; many++ {
			for place := range many {
				l := row(slices.Repeat([]api.Milli{5}, many)...)
				l[place].Value = no
				fails(t, l, api.ErrArg)
			}
			fails(t, row(slices.Repeat([]api.Milli{no}, many)...), api.ErrArg)
		}
		fails(t, ends(0, 1, no, most), api.ErrArg)
		fails(t, ends(0, 1, no, 0), api.ErrArg)
	}
}

// TestTicksThatDontRise: at each place of a row one is no higher than the one ahead.
func TestTicksThatDontRise(t *testing.T) {
	for many := 2; many <= 6; many++ {
		for place := 1; place < many; place++ {
			for _, less := range []int64{0, 1, 2, 10, 11, 1 << 40} {
				l := spaced(100, 10, slices.Repeat([]api.Milli{5}, many)...)
				for i := place; i < many; i++ {
					l[i].At -= 10 + less
				}
				fails(t, l, api.ErrArg)
			}
		}
	}
	for _, at := range []int64{noTick, -1, 0, 1, api.MaxClock, lastTick} {
		fails(t, ends(at, at, 1, 2), api.ErrArg)
		fails(t, ends(at, noTick, 1, 2), api.ErrArg)
		fails(t, ends(lastTick, at, 1, 2), api.ErrArg)
	}
	// above the first one, or above the one two places ahead, isn't enough
	fails(t, []sample{one(0, 1), one(10, 2), one(5, 3)}, api.ErrArg)
	fails(t, []sample{one(0, 1), one(10, 2), one(10, 3)}, api.ErrArg)
	fails(t, []sample{one(0, 1), one(10, 2), one(5, 3), one(20, 4)}, api.ErrArg)
}

// TestRange: one thousandth more than MaxMilli, and far more, beyond 64 bits too.
func TestRange(t *testing.T) {
	fails(t, row(0, most, 1), api.ErrRange)
	fails(t, row(1, most, 2), api.ErrRange)
	fails(t, row(0, most-1, 2), api.ErrRange)
	fails(t, row(1, 0, most, 1), api.ErrRange)
	fails(t, row(most, most-1, most, 1), api.ErrRange)
	fails(t, row(0, most, most-1), api.ErrRange)
	// behind the bound it goes on, or stands still
	fails(t, row(0, most, 1, 1, 1), api.ErrRange)
	fails(t, row(0, most, 1, 0, 0), api.ErrRange)
	// the rate alone would be no more than MaxMilli
	fails(t, spaced(0, 1<<40, 0, most, 1), api.ErrRange)
	// 512 times MaxMilli is 2^62, 1024 times 2^63, 2048 times 2^64
	for _, ups := range []int{2, 3, 4, 511, 512, 513, 1023, 1024, 1025, 2047, 2048, 2049, 4096, 5000} {
		l := row(slices.Repeat([]api.Milli{0, most}, ups)...)
		fails(t, l, api.ErrRange)
		if n := Resets(l); n != ups-1 {
			t.Errorf("Resets of %d ups: %d", ups, n)
		}
	}
}

// TestOrderOfErrors: ErrArg ahead of ErrFew, and of ErrRange, wherever it stands.
func TestOrderOfErrors(t *testing.T) {
	for _, no := range noValues {
		fails(t, row(no), api.ErrArg)
		fails(t, row(no, 0, most, 1), api.ErrArg)
		fails(t, row(0, most, 1, no), api.ErrArg)
		fails(t, row(0, most, no, 1), api.ErrArg)
		fails(t, row(0, most, most-1, most, no), api.ErrArg)
	}
	for place := 1; place < 5; place++ {
		l := row(0, most, 1, 2, 3)
		l[place].At = l[place-1].At
		fails(t, l, api.ErrArg)
	}
}

// P12.1, Resets

// TestResetsOfAnything: what isn't right counts as it stands.
func TestResetsOfAnything(t *testing.T) {
	for _, c := range []struct {
		l    []sample
		want int
	}{
		{nil, 0},
		{row(math.MinInt64), 0},
		{row(math.MinInt64, math.MaxInt64), 0},
		{row(math.MaxInt64, math.MinInt64), 1},
		{row(0, -1, -2, -2, -1), 2},
		{row(most+2, most+1, most), 2},
		{row(math.MaxInt64, math.MaxInt64-1, math.MinInt64+1, math.MinInt64), 3},
		{spaced(0, 0, 3, 2, 1), 2},
		{spaced(0, -1, 3, 2, 4), 1},
		{ends(lastTick, noTick, 2, 1), 1},
		{ends(lastTick, noTick, 1, 2), 0},
		{row(5, 4, 5, 4, 5, 4, 4), 3},
		{row(5, 1, 4, 3, 3, 2, 2, 9), 3},
	} {
		if n := Resets(c.l); n != c.want {
			t.Errorf("Resets(%v): %d, want %d", c.l, n, c.want)
		}
	}
}

// P12.1 and P12.2, rows by chance

// chanced is a row by chance, of which now and then something isn't right.
func chanced(chance *rand.Rand) []sample {
	top := []int64{2, 10, 1000, api.MaxMilli / 8, api.MaxMilli}[chance.Intn(5)]
	apart := []int64{1, 3, 1000, 1 << 55}[chance.Intn(4)]
	at := []int64{0, 1, -5, noTick, api.MaxClock}[chance.Intn(5)]
	var l []sample
	for range chance.Intn(14) {
		l = append(l, one(at, api.Milli(chance.Int63n(top+1))))
		at += 1 + chance.Int63n(apart)
	}
	if len(l) > 0 && chance.Intn(8) == 0 {
		l[chance.Intn(len(l))].Value = noValues[chance.Intn(len(noValues))]
	}
	if len(l) > 0 && chance.Intn(8) == 0 {
		l[chance.Intn(len(l))].At = at - chance.Int63n(2*apart)
	}
	return l
}

func TestByChance(t *testing.T) {
	chance := rand.New(rand.NewSource(12))
	seen := map[api.Errno]int{}
	for range 60000 {
		l := chanced(chance)
		increase, rate, e, resets := expected(l)
		wants(t, l, increase, rate, e, resets)
		seen[e]++
	}
	for _, e := range []api.Errno{api.OK, api.ErrArg, api.ErrFew, api.ErrRange} {
		if seen[e] < 500 {
			t.Errorf("only %d rows by chance are %d", seen[e], e)
		}
	}
}

// TestEachSmallRow goes through all rows of up to five samples of small values.
func TestEachSmallRow(t *testing.T) {
	const values = 4
	for many := range 6 {
		for code := range int(math.Pow(values, float64(many))) {
			var l []sample
			for i := range many {
				l = append(l, one(int64(i*i), api.Milli(code%values)))
				code /= values
			}
			increase, rate, e, resets := expected(l)
			wants(t, l, increase, rate, e, resets)
		}
	}
}

// P12.2

// TestParts: the increase is that of two parts together, whichever sample they
// have in common; so is how often it began anew.
func TestParts(t *testing.T) {
	chance := rand.New(rand.NewSource(2))
	for range 5000 {
		l := chanced(chance)
		whole, e := Increase(l)
		if e != api.OK {
			continue
		}
		for common := 1; common < len(l)-1; common++ {
			a, ea := Increase(l[:common+1])
			b, eb := Increase(l[common:])
			if ea != api.OK || eb != api.OK || a+b != whole {
				t.Fatalf("of %v, %d in common: %d (%d) and %d (%d), not %d", l, common, a, ea, b, eb, whole)
			}
			if n := Resets(l[:common+1]) + Resets(l[common:]); n != Resets(l) {
				t.Fatalf("of %v, %d in common: %d resets, not %d", l, common, n, Resets(l))
			}
		}
	}
}

// TestWhatIsHandedInStays: neither a row nor the spare room behind it is changed,
// and nothing of it is kept.
func TestWhatIsHandedInStays(t *testing.T) {
	whole := row(9, 8, 12, 3, 3, 40, most, 1, 0, 7)
	whole[8].At = -1
	before := slices.Clone(whole)
	for from := range whole {
		for to := from; to <= len(whole); to++ {
			l := whole[from:to]
			increase, rate, e, resets := expected(l)
			for range 2 {
				wants(t, l, increase, rate, e, resets)
			}
			if !slices.Equal(whole, before) {
				t.Fatalf("of %d to %d: %v, not %v", from, to, whole, before)
			}
		}
	}
	l := row(1, 2, 3)
	wants(t, l, 2, 1, api.OK, 0)
	l[2].Value, l[2].At = 12, 4
	wants(t, l, 11, 2, api.OK, 0)
	l[0].Value = 20
	wants(t, l, 12, 3, api.OK, 1)
}
