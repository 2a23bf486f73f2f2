package gauge

import (
	"cmp"
	"math"
	"math/big"
	"slices"
	"testing"

	"trimtab/api"
)

const (
	most = api.MaxMilli

	minus    = uint64(1) << 63 // the sign's bit, and -0
	endless  = 0x7ff0000000000000
	tiniest  = 1                  // the least float above 0
	subMost  = 0x000fffffffffffff // the greatest subnormal one
	normal   = 0x0010000000000000 // the least that isn't subnormal
	greatest = 0x7fefffffffffffff
)

// nans are numbers that are none: quiet and signalling, of both signs.
var nans = []uint64{
	0x7ff8000000000000, 0x7ff8000000000001, 0x7ff0000000000001, 0x7fffffffffffffff, 0x7ff4000000000000,
	0xfff8000000000000, 0xfff0000000000001, 0xffffffffffffffff,
}

// outs are numbers whose quantity is out of its bounds.
var outs = []uint64{
	endless, endless | minus,
	tiniest | minus, subMost | minus, normal | minus, greatest | minus,
	math.Float64bits(-1), math.Float64bits(-0.5), math.Float64bits(-0.0001), math.Float64bits(-1e300),
	math.Float64bits(9007199254741), math.Float64bits(1 << 43 * 1.5), math.Float64bits(1 << 44),
	math.Float64bits(1 << 53), math.Float64bits(1 << 63), math.Float64bits(1 << 64), math.Float64bits(1e300), greatest,
}

// few are floats that have a quantity, from the least to the greatest, most
// of them with their neighbours, rising.
func few() []uint64 {
	l := []uint64{0, tiniest, tiniest + 1, subMost - 1, subMost, normal, normal + 1}
	for _, x := range []float64{
		1e-300, 1e-30, 0.0001, 0.00025, 0.0004, 0.0005, 0.0006, 0.001, 0.0015, 0.0625, 0.1, 0.1875, 0.25, 0.3, 0.5,
		0.7, 0.9995, 1, 1.0005, 1.5, 2, 3, 1000, 1000.001, 1 << 20, 1e9 + 0.3125, 1 << 32, 1 << 40, 1 << 42, 1 << 43, 9e12,
	} {
		b := math.Float64bits(x)
		l = append(l, b-1, b, b+1)
	}
	return append(l, last()-1, last())
}

// last is the greatest float that has a quantity.
func last() uint64 { return math.Float64bits(9007199254740.9921875) }

// quantity is a thousand times a float, rounded to the nearest, of two that
// are as near the even one, worked out without a bound.
func quantity(x float64) *big.Int {
	twice := new(big.Rat).SetFloat64(x)
	twice.Mul(twice, big.NewRat(2000, 1))
	n, rest := new(big.Int).DivMod(twice.Num(), twice.Denom(), new(big.Int))
	// n is twice the quantity, rounded down: odd means a half, or more.
	half := n.Bit(0) == 1
	n.Rsh(n, 1)
	if half && (rest.Sign() != 0 || n.Bit(0) == 1) {
		n.Add(n, big.NewInt(1))
	}
	return n
}

// read is what Read should answer.
func read(sample uint64) (api.Milli, api.Errno) {
	x := math.Float64frombits(sample)
	switch {
	case x != x:
		return 0, api.ErrForm
	case math.IsInf(x, 0) || x < 0:
		return 0, api.ErrRange
	}
	n := quantity(x)
	if n.Cmp(big.NewInt(most)) > 0 {
		return 0, api.ErrRange
	}
	return api.Milli(n.Int64()), api.OK
}

func TestReadTable(t *testing.T) {
	for _, c := range []struct {
		x    float64
		want api.Milli
	}{
		{0, 0}, {1, 1000}, {1.5, 1500}, {2, 2000}, {0.25, 250}, {1000, 1000000},
		// what isn't written exactly as a float
		{0.1, 100}, {0.2, 200}, {0.3, 300}, {0.7, 700}, {1.1, 1100}, {2.675, 2675}, {0.001, 1}, {0.999, 999},

		// around a half: the float is a little more, or a little less
		{0.0005, 1},
		{math.Nextafter(0.0005, 0), 0},
		{0.0004, 0}, {0.0006, 1}, {0.0015, 2}, {0.0025, 3}, {0.0035, 4}, {0.0045, 4}, {1.0005, 1000}, {1.0015, 1002},
		{0.00049999999999999, 0}, {0.00149999999999999, 1},

		// just a half: the even one
		{0.0625, 62}, {0.1875, 188}, {0.3125, 312}, {0.4375, 438}, {1.0625, 1062}, {1.1875, 1188},
		{math.Nextafter(0.0625, 1), 63}, {math.Nextafter(0.0625, 0), 62},
		{math.Nextafter(0.1875, 1), 188}, {math.Nextafter(0.1875, 0), 187},
		{1<<40 + 0.0625, 1<<40*1000 + 62}, {1<<40 + 0.1875, 1<<40*1000 + 188},

		// next to nothing
		{math.SmallestNonzeroFloat64, 0}, {math.Float64frombits(subMost), 0}, {math.Float64frombits(normal), 0}, {1e-300, 0},
		{1.0 / (1 << 10), 1}, {1.0 / (1 << 11), 0}, {1.0 / (1 << 12), 0}, {1.0 / (1 << 62), 0},

		// at the end: the last but one and the last, which is a little more than MaxMilli thousandths
		{9007199254740, 9007199254740000},
		{9007199254740.990234375, most - 2},
		{9007199254740.9921875, most},
		{1 << 43, 1 << 43 * 1000},
	} {
		if got, e := Read(math.Float64bits(c.x)); got != c.want || e != api.OK {
			t.Errorf("Read(%v) = %d, %d, want %d", c.x, got, e, c.want)
		}
	}
}

func TestReadOfMinusZero(t *testing.T) {
	if got, e := Read(minus); got != 0 || e != api.OK {
		t.Errorf("Read(-0) = %d, %d, want 0", got, e)
	}
}

func TestReadOfNoNumber(t *testing.T) {
	for _, sample := range nans {
		if got, e := Read(sample); got != 0 || e != api.ErrForm {
			t.Errorf("Read(%#x) = %d, %d, want ErrForm", sample, got, e)
		}
	}
}

func TestReadOutOfRange(t *testing.T) {
	for _, sample := range append([]uint64{last() + 1, last() + 2}, outs...) {
		if got, e := Read(sample); got != 0 || e != api.ErrRange {
			t.Errorf("Read(%#x, %v) = %d, %d, want ErrRange", sample, math.Float64frombits(sample), got, e)
		}
	}
}

func checkRead(t *testing.T, sample uint64) {
	t.Helper()
	got, e := Read(sample)
	if want, we := read(sample); got != want || e != we {
		t.Fatalf("Read(%#x, %v) = %d, %d, want %d, %d", sample, math.Float64frombits(sample), got, e, want, we)
	}
}

// TestReadIsExact goes through floats of each exponent and both signs.
func TestReadIsExact(t *testing.T) {
	for exponent := uint64(0); exponent < 1<<11; exponent++ {
		for _, fraction := range []uint64{0, 1, 2, 0x8000000000000, 0x62d0e56041893, 0x999999999999a, 0xffffffffffffe, 0xfffffffffffff} {
			checkRead(t, exponent<<52|fraction)
			checkRead(t, minus|exponent<<52|fraction)
		}
	}
}

// TestReadIsRoundedOnce goes around each half of a thousandth, where a
// product of floats is rounded ahead of time.
func TestReadIsRoundedOnce(t *testing.T) {
	for n := 1; n < 1<<42; n += n/5 + 2 {
		middle := math.Float64bits((float64(n) + 0.5) / 1000)
		for by := uint64(0); by <= 8; by++ {
			checkRead(t, middle-4+by)
		}
		// each odd sixteenth is just a half
		checkRead(t, math.Float64bits(float64(n|1)/16))
	}
}

func TestReadAroundTheEnd(t *testing.T) {
	for by := uint64(0); by < 4000; by++ {
		checkRead(t, last()-2000+by)
	}
}

func TestWriteTable(t *testing.T) {
	for _, c := range []struct {
		m    api.Milli
		want uint64
	}{
		{0, 0},
		{1000, 0x3ff0000000000000},
		{1500, 0x3ff8000000000000},
		{2000, 0x4000000000000000},
		{500, 0x3fe0000000000000},
		{100, 0x3fb999999999999a},
		{1, 0x3f50624dd2f1a9fc},
		{3, math.Float64bits(0.003)},
		{999, math.Float64bits(0.999)},
		{1001, math.Float64bits(1.001)},
		{2675, math.Float64bits(2.675)},
		{1 << 40, math.Float64bits(1099511627.776)},
		{most - 1, math.Float64bits(9007199254740.991)},
		{most, last()},
	} {
		if got, e := Write(c.m); got != c.want || e != api.OK {
			t.Errorf("Write(%d) = %#x, %d, want %#x", c.m, got, e, c.want)
		}
	}
}

func TestWriteOfWhatIsntRight(t *testing.T) {
	for _, m := range []api.Milli{-1, -1000, -most, most + 1, most + 8, most * 2, math.MinInt64, math.MinInt64 + 1, math.MaxInt64} {
		if got, e := Write(m); got != 0 || e != api.ErrArg {
			t.Errorf("Write(%d) = %#x, %d, want ErrArg", m, got, e)
		}
	}
}

// written are quantities of all sizes.
func written() []api.Milli {
	var l []api.Milli
	for m := api.Milli(0); m <= 20000; m++ {
		l = append(l, m, 1<<40-m, most-m)
	}
	for _, base := range []api.Milli{2, 3, 5, 10, 1024} {
		for x := base; x < most; x *= base {
			l = append(l, x-1, x, x+1)
		}
	}
	for m := api.Milli(20000); m < most; m += m/300 + 1 {
		l = append(l, m)
	}
	return l
}

func TestWriteIsTheNearest(t *testing.T) {
	for _, m := range written() {
		nearest, _ := big.NewRat(int64(m), 1000).Float64()
		if got, e := Write(m); got != math.Float64bits(nearest) || e != api.OK {
			t.Fatalf("Write(%d) = %#x, %d, want %#x", m, got, e, math.Float64bits(nearest))
		}
	}
}

// TestWrittenIsReadAgain is P4.2's first half.
func TestWrittenIsReadAgain(t *testing.T) {
	for _, m := range written() {
		if m > 1<<40 {
			continue
		}
		sample, _ := Write(m)
		if got, e := Read(sample); got != m || e != api.OK {
			t.Fatalf("Read(Write(%d)) = %d, %d", m, got, e)
		}
	}
}

// mixed are samples of all sorts, those with a quantity falling.
func mixed() []uint64 {
	l := slices.Clone(few())
	slices.Reverse(l)
	l = append(l, minus, 0, minus)
	l = append(l, nans...)
	return append(l, outs...)
}

func TestSortTable(t *testing.T) {
	one, two, half := math.Float64bits(1), math.Float64bits(2), math.Float64bits(0.5)
	for _, c := range []struct{ l, want []uint64 }{
		{nil, nil},
		{[]uint64{}, nil},
		{[]uint64{one}, []uint64{one}},
		{[]uint64{two, one, half}, []uint64{half, one, two}},
		// what is there twice stays there twice
		{[]uint64{two, one, two, one}, []uint64{one, one, two, two}},
		// -0 ahead of 0, however they came
		{[]uint64{0, minus}, []uint64{minus, 0}},
		{[]uint64{minus, 0}, []uint64{minus, 0}},
		{[]uint64{0, one, minus, 0, tiniest, minus}, []uint64{minus, minus, 0, 0, tiniest, one}},
		// as numbers, though their quantities are the same
		{[]uint64{one + 1, one, one - 1}, []uint64{one - 1, one, one + 1}},
		{[]uint64{tiniest, 0}, []uint64{0, tiniest}},
		// as numbers, not as texts or by their last bits
		{[]uint64{math.Float64bits(10), math.Float64bits(9), math.Float64bits(100)}, []uint64{math.Float64bits(9), math.Float64bits(10), math.Float64bits(100)}},
		// without those that have no quantity
		{[]uint64{endless, two, one | minus, nans[0], one, last() + 1, last()}, []uint64{one, two, last()}},
		{outs, nil},
		{nans, nil},
	} {
		if got := Sort(c.l); !slices.Equal(got, c.want) {
			t.Errorf("Sort(%#x) = %#x, want %#x", c.l, got, c.want)
		}
	}
}

func TestSortOfAllSorts(t *testing.T) {
	want := append([]uint64{minus, minus, 0}, few()...)
	l := mixed()
	for turn := range l {
		turned := append(slices.Clone(l[turn:]), l[:turn]...)
		if got := Sort(turned); !slices.Equal(got, want) {
			t.Fatalf("Sort from place %d on: %#x, want %#x", turn, got, want)
		}
	}
}

// mean is what Mean should answer, worked out without a bound.
func mean(l []uint64) (api.Milli, int) {
	sum, n := new(big.Int), 0
	for _, sample := range l {
		if m, e := read(sample); e == api.OK {
			sum.Add(sum, big.NewInt(int64(m)))
			n++
		}
	}
	if n == 0 {
		return 0, 0
	}
	return api.Milli(sum.Div(sum, big.NewInt(int64(n))).Int64()), n
}

func samples(l ...float64) []uint64 {
	var out []uint64
	for _, x := range l {
		out = append(out, math.Float64bits(x))
	}
	return out
}

func TestMeanTable(t *testing.T) {
	for _, c := range []struct {
		l    []uint64
		want api.Milli
		n    int
	}{
		{nil, 0, 0},
		{[]uint64{}, 0, 0},
		{samples(0), 0, 1},
		{[]uint64{minus}, 0, 1},
		{samples(1.5), 1500, 1},
		{samples(1, 2), 1500, 2},
		{samples(0.001, 0.002), 1, 2}, // 1.5
		{samples(0, 0, 0.002), 0, 3},
		{samples(1, 1, 1.001), 1000, 3},
		{samples(1, 1.001, 1.001), 1000, 3}, // rounded down, not to the nearest
		// of quantities, not of floats
		{samples(0.0004, 0.0004, 0.0004, 0.0004), 0, 4},
		{samples(0.0006, 0.0006), 1, 2},
		{samples(0.0016, 0.0006), 1, 2},
		{samples(0.0014, 0.0014, 0.0014), 1, 3},
		{samples(0.0004, 0.0014, 0.0024), 1, 3},
		{samples(0.0005, 0.0005), 1, 2},
		// those that have no quantity don't count
		{samples(1, 2, math.Inf(1)), 1500, 2},
		{samples(math.NaN(), 4, -1, math.Inf(-1), 1e300), 4000, 1},
		{[]uint64{minus, last(), last() + 1}, most / 2, 2},
		{outs, 0, 0},
		{nans, 0, 0},
	} {
		if got, n := Mean(c.l); got != c.want || n != c.n {
			t.Errorf("Mean(%#x) = %d, %d, want %d, %d", c.l, got, n, c.want, c.n)
		}
	}
}

// TestMeanOfMuch is about sums beyond 53 and 64 bits.
func TestMeanOfMuch(t *testing.T) {
	for _, n := range []int{2, 3, 1023, 1024, 1025, 2047, 2048, 2049, 4096, 5000} {
		l := slices.Repeat([]uint64{last()}, n)
		if got, count := Mean(l); got != most || count != n {
			t.Errorf("Mean of %d times the greatest = %d, %d", n, got, count)
		}
		l = append(l, 0, tiniest, math.Float64bits(3.25))
		got, count := Mean(l)
		if want, wn := mean(l); got != want || count != wn {
			t.Errorf("Mean of %d times the greatest, and more = %d, %d, want %d, %d", n, got, count, want, wn)
		}
	}
}

func TestMeanOfAllSorts(t *testing.T) {
	l := mixed()
	for from := range l {
		for to := from; to <= len(l); to += 3 {
			got, n := Mean(l[from:to])
			if want, wn := mean(l[from:to]); got != want || n != wn {
				t.Fatalf("Mean of places %d to %d = %d, %d, want %d, %d", from, to, got, n, want, wn)
			}
		}
	}
}

// TestWhatIsHandedInStays is P4.2's second half: neither the samples nor the
// spare room behind them are changed, and an answer shares none of them.
func TestWhatIsHandedInStays(t *testing.T) {
	all := mixed()
	rising := append([]uint64{minus, 0}, few()[1:]...)
	for _, whole := range [][]uint64{all, rising} {
		before := slices.Clone(whole)
		l := whole[:len(whole)/2]
		first, second := Sort(l), Sort(l)
		Mean(l)
		if !slices.Equal(whole, before) {
			t.Fatal("samples that were handed in were changed")
		}
		clear(first[:cap(first)])
		if !slices.Equal(whole, before) {
			t.Fatal("Sort's answer is what was handed in")
		}
		if want := sorted(l); !slices.Equal(second, want) {
			t.Fatal("two answers of Sort are one")
		}
		if !slices.Equal(Sort(l), second) {
			t.Fatal("Sort keeps what it has answered")
		}
	}
}

// sorted is what Sort should answer: of floats that aren't below 0 the bits
// rise with the numbers, and as whole numbers -0's bits are the least of all.
func sorted(l []uint64) []uint64 {
	known := slices.DeleteFunc(slices.Clone(l), func(sample uint64) bool {
		_, e := read(sample)
		return e != api.OK
	})
	slices.SortFunc(known, func(a, b uint64) int { return cmp.Compare(int64(a), int64(b)) })
	return known
}
