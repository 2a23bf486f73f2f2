package wide

import (
	"math"
	"math/big"
	"testing"

	"trimtab/api"
)

const top = math.MaxUint64

// ends are the numbers at which products, sums and quotients change their ways.
var ends = []uint64{
	0, 1, 2, 3, 5, 7, 10, 1000,
	1<<31 - 1, 1 << 31, 1<<32 - 1, 1 << 32, 1<<32 + 1,
	1<<53 - 1, 1 << 53, 1<<62 + 1, 1<<63 - 1, 1 << 63, 1<<63 + 1,
	6148914691236517205, // a third of top
	12345678901234567891, top - 2, top - 1, top,
}

// wides are ends in both halves.
func wides() []Wide {
	var l []Wide
	for _, high := range ends {
		for _, low := range ends {
			l = append(l, Wide{High: high, Low: low})
		}
	}
	return l
}

func bigOf(x uint64) *big.Int { return new(big.Int).SetUint64(x) }

func bigWide(w Wide) *big.Int {
	x := new(big.Int).Lsh(bigOf(w.High), 64)
	return x.Add(x, bigOf(w.Low))
}

// wideOf is the number modulo 2^128.
func wideOf(x *big.Int) Wide {
	half := bigOf(top)
	low := new(big.Int).And(x, half)
	high := new(big.Int).Rsh(x, 64)
	return Wide{High: high.And(high, half).Uint64(), Low: low.Uint64()}
}

func TestOfTable(t *testing.T) {
	for _, c := range []struct {
		a, b uint64
		want Wide
	}{
		{0, 0, Wide{0, 0}},
		{0, top, Wide{0, 0}},
		{top, 0, Wide{0, 0}},
		{1, 1, Wide{0, 1}},
		{1, top, Wide{0, top}},
		{6, 7, Wide{0, 42}},
		{1 << 32, 1 << 32, Wide{1, 0}},
		{1<<32 - 1, 1<<32 + 1, Wide{0, top}},
		{2, top, Wide{1, top - 1}},
		{1 << 63, 7, Wide{3, 1 << 63}},
		{top, top, Wide{top - 1, 1}},
	} {
		if got := Of(c.a, c.b); got != c.want {
			t.Errorf("Of(%d, %d) = %v, want %v", c.a, c.b, got, c.want)
		}
	}
}

func TestOfIsTheProduct(t *testing.T) {
	for _, a := range ends {
		for _, b := range ends {
			want := new(big.Int).Mul(bigOf(a), bigOf(b))
			if got := Of(a, b); bigWide(got).Cmp(want) != 0 {
				t.Errorf("Of(%d, %d) = %v, want %v", a, b, got, want)
			}
		}
	}
}

func TestCmpTable(t *testing.T) {
	for _, c := range []struct {
		w, o Wide
		want int
	}{
		{Wide{}, Wide{}, 0},
		{Wide{top, top}, Wide{top, top}, 0},
		{Wide{0, 1}, Wide{0, 2}, -1},
		{Wide{0, 2}, Wide{0, 1}, 1},
		{Wide{0, top}, Wide{1, 0}, -1},
		{Wide{1, 0}, Wide{0, top}, 1},
		{Wide{1, 5}, Wide{2, 5}, -1},
		{Wide{1 << 63, 0}, Wide{1<<63 - 1, 0}, 1},
		{Wide{0, 1 << 63}, Wide{0, 1<<63 - 1}, 1},
	} {
		if got := c.w.Cmp(c.o); got != c.want {
			t.Errorf("%v.Cmp(%v) = %d, want %d", c.w, c.o, got, c.want)
		}
	}
}

func TestCmpIsTheOrder(t *testing.T) {
	for _, w := range wides() {
		for _, o := range wides() {
			if got, want := w.Cmp(o), bigWide(w).Cmp(bigWide(o)); got != want {
				t.Fatalf("%v.Cmp(%v) = %d, want %d", w, o, got, want)
			}
		}
	}
}

func TestAddTable(t *testing.T) {
	for _, c := range []struct {
		w, o, want Wide
		beyond     bool
	}{
		{Wide{}, Wide{}, Wide{}, false},
		{Wide{0, 2}, Wide{0, 3}, Wide{0, 5}, false},
		{Wide{0, top}, Wide{0, 1}, Wide{1, 0}, false},
		{Wide{0, top}, Wide{0, top}, Wide{1, top - 1}, false},
		{Wide{top, 0}, Wide{0, top}, Wide{top, top}, false},
		{Wide{top, top}, Wide{}, Wide{top, top}, false},
		{Wide{top - 1, top}, Wide{0, 1}, Wide{top, 0}, false},
		{Wide{top, top}, Wide{0, 1}, Wide{0, 0}, true},
		{Wide{1 << 63, 3}, Wide{1 << 63, 4}, Wide{0, 7}, true},
		{Wide{top, 5}, Wide{2, 6}, Wide{1, 11}, true},
		{Wide{top, top}, Wide{top, top}, Wide{top, top - 1}, true},
	} {
		got, beyond := c.w.Add(c.o)
		if got != c.want || beyond != c.beyond {
			t.Errorf("%v.Add(%v) = %v, %v, want %v, %v", c.w, c.o, got, beyond, c.want, c.beyond)
		}
	}
}

func TestAddIsTheSum(t *testing.T) {
	for _, w := range wides() {
		for _, o := range wides() {
			sum := new(big.Int).Add(bigWide(w), bigWide(o))
			got, beyond := w.Add(o)
			if got != wideOf(sum) || beyond != (sum.BitLen() > 128) {
				t.Fatalf("%v.Add(%v) = %v, %v, want %v", w, o, got, beyond, sum)
			}
		}
	}
}

func TestDivTable(t *testing.T) {
	for _, c := range []struct {
		w        Wide
		by       uint64
		quotient Wide
		rest     uint64
	}{
		{Wide{}, 1, Wide{}, 0},
		{Wide{}, top, Wide{}, 0},
		{Wide{0, 7}, 2, Wide{0, 3}, 1},
		{Wide{0, 2}, 7, Wide{0, 0}, 2},
		{Wide{1, 0}, 1, Wide{1, 0}, 0},
		{Wide{1, 0}, 2, Wide{0, 1 << 63}, 0},
		{Wide{1, 0}, top, Wide{0, 1}, 1},
		{Wide{7, 5}, 7, Wide{1, 0}, 5},
		{Wide{top, top}, 1, Wide{top, top}, 0},
		{Wide{top, top}, top, Wide{1, 1}, 0},
		{Wide{top - 1, top}, top, Wide{0, top}, top - 1},
	} {
		quotient, rest, e := c.w.Div(c.by)
		if quotient != c.quotient || rest != c.rest || e != api.OK {
			t.Errorf("%v.Div(%d) = %v, %d, %d, want %v, %d", c.w, c.by, quotient, rest, e, c.quotient, c.rest)
		}
	}
}

func TestDivByZero(t *testing.T) {
	for _, w := range wides() {
		if quotient, rest, e := w.Div(0); quotient != (Wide{}) || rest != 0 || e != api.ErrZero {
			t.Fatalf("%v.Div(0) = %v, %d, %d, want zero values beside ErrZero", w, quotient, rest, e)
		}
	}
}

// TestDivGivesTheNumberBack is P1.2: quotient times divisor, and the rest, are the number.
func TestDivGivesTheNumberBack(t *testing.T) {
	for _, w := range wides() {
		for _, by := range ends[1:] {
			quotient, rest, e := w.Div(by)
			if e != api.OK {
				t.Fatalf("%v.Div(%d): error %d", w, by, e)
			}
			if rest >= by {
				t.Fatalf("%v.Div(%d): rest %d isn't less than the divisor", w, by, rest)
			}
			back := new(big.Int).Mul(bigWide(quotient), bigOf(by))
			if back.Add(back, bigOf(rest)).Cmp(bigWide(w)) != 0 {
				t.Fatalf("%v.Div(%d) = %v, %d: that gives %v back", w, by, quotient, rest, back)
			}
		}
	}
}

func TestMulDivTable(t *testing.T) {
	for _, c := range []struct {
		a, b, by uint64
		up       bool
		want     uint64
		e        api.Errno
	}{
		{10, 3, 4, false, 7, api.OK},
		{10, 3, 4, true, 8, api.OK},
		{10, 2, 4, false, 5, api.OK},
		{10, 2, 4, true, 5, api.OK},
		{0, top, top, true, 0, api.OK},
		{0, 0, 1, false, 0, api.OK},
		{1, 1, top, false, 0, api.OK},
		{1, 1, top, true, 1, api.OK},
		{top, 1, 1, false, top, api.OK},
		{top, 1, 1, true, top, api.OK},
		{top, top, top, false, top, api.OK},
		{top, top, top, true, top, api.OK},
		{1 << 63, 6, 1 << 62, false, 12, api.OK},
		{1 << 32, 1 << 32, 2, false, 1 << 63, api.OK},

		// beyond, however they are rounded
		{1 << 32, 1 << 32, 1, false, 0, api.ErrOver},
		{1 << 32, 1 << 32, 1, true, 0, api.ErrOver},
		{1 << 63, 4, 1, true, 0, api.ErrOver},
		{top, 2, 1, false, 0, api.ErrOver},
		{top, top, top - 1, false, 0, api.ErrOver},
		{top, top, 1, false, 0, api.ErrOver},

		// 2^65 - 1 is 253921 * 145295143558111: halved, only its rounding up is beyond
		{253921, 145295143558111, 2, false, top, api.OK},
		{253921, 145295143558111, 2, true, 0, api.ErrOver},
		{253921, 145295143558111, 1, false, 0, api.ErrOver},

		// ErrZero comes ahead of ErrOver
		{0, 0, 0, false, 0, api.ErrZero},
		{10, 3, 0, false, 0, api.ErrZero},
		{10, 3, 0, true, 0, api.ErrZero},
		{top, top, 0, false, 0, api.ErrZero},
		{top, top, 0, true, 0, api.ErrZero},
	} {
		if got, e := MulDiv(c.a, c.b, c.by, c.up); got != c.want || e != c.e {
			t.Errorf("MulDiv(%d, %d, %d, %v) = %d, %d, want %d, %d", c.a, c.b, c.by, c.up, got, e, c.want, c.e)
		}
	}
}

// mulDiv is what MulDiv should answer, worked out without a bound.
func mulDiv(a, b, by uint64, up bool) (uint64, api.Errno) {
	product := new(big.Int).Mul(bigOf(a), bigOf(b))
	quotient, rest := product.DivMod(product, bigOf(by), new(big.Int))
	if up && rest.Sign() != 0 {
		quotient.Add(quotient, big.NewInt(1))
	}
	if !quotient.IsUint64() {
		return 0, api.ErrOver
	}
	return quotient.Uint64(), api.OK
}

func TestMulDivIsRoundedOnce(t *testing.T) {
	for _, a := range ends {
		for _, b := range ends {
			for _, by := range ends[1:] {
				for _, up := range []bool{false, true} {
					got, e := MulDiv(a, b, by, up)
					if want, we := mulDiv(a, b, by, up); got != want || e != we {
						t.Fatalf("MulDiv(%d, %d, %d, %v) = %d, %d, want %d, %d", a, b, by, up, got, e, want, we)
					}
				}
			}
		}
	}
}

// TestMulDivUpIsDownOrOneMore is P1.2: one more just where there is a rest.
func TestMulDivUpIsDownOrOneMore(t *testing.T) {
	for _, a := range ends {
		for _, b := range ends {
			for _, by := range ends[1:] {
				down, e := MulDiv(a, b, by, false)
				if e != api.OK {
					continue
				}
				_, rest, _ := Of(a, b).Div(by)
				up, e := MulDiv(a, b, by, true)
				switch {
				case rest == 0 && (up != down || e != api.OK):
					t.Fatalf("MulDiv(%d, %d, %d): up %d, %d, down %d without a rest", a, b, by, up, e, down)
				case rest != 0 && down == top && (up != 0 || e != api.ErrOver):
					t.Fatalf("MulDiv(%d, %d, %d): up %d, %d, want ErrOver", a, b, by, up, e)
				case rest != 0 && down != top && (up != down+1 || e != api.OK):
					t.Fatalf("MulDiv(%d, %d, %d): up %d, %d, down %d with a rest", a, b, by, up, e, down)
				}
			}
		}
	}
}

func TestRatioTable(t *testing.T) {
	for _, c := range []struct {
		a, b, c, d uint64
		want       int
		e          api.Errno
	}{
		{1, 2, 2, 3, -1, api.OK},
		{2, 3, 1, 2, 1, api.OK},
		{1, 2, 2, 4, 0, api.OK},
		{0, 1, 0, top, 0, api.OK},
		{0, top, 1, top, -1, api.OK},
		{top, top, 1, 1, 0, api.OK},
		{top, 1, top, 1, 0, api.OK},
		{top, 1, top - 1, 1, 1, api.OK},
		{top - 1, top, top - 2, top - 1, 1, api.OK},
		{top - 2, top - 1, top - 1, top, -1, api.OK},
		{1 << 63, 3, 1 << 62, 1, -1, api.OK},
		// as products modulo 2^64 these would be the same
		{1 << 63, 1, 0, 2, 1, api.OK},
		{0, 2, 1 << 63, 1, -1, api.OK},

		{1, 0, 1, 1, 0, api.ErrZero},
		{1, 1, 1, 0, 0, api.ErrZero},
		{2, 0, 1, 0, 0, api.ErrZero},
		{0, 0, 0, 0, 0, api.ErrZero},
		{top, 0, 1, top, 0, api.ErrZero},
		{1, top, top, 0, 0, api.ErrZero},
	} {
		if got, e := Ratio(c.a, c.b, c.c, c.d); got != c.want || e != c.e {
			t.Errorf("Ratio(%d, %d, %d, %d) = %d, %d, want %d, %d", c.a, c.b, c.c, c.d, got, e, c.want, c.e)
		}
	}
}

func TestRatioIsTheOrder(t *testing.T) {
	for _, a := range ends {
		for _, b := range ends[1:] {
			left := new(big.Rat).SetFrac(bigOf(a), bigOf(b))
			for _, c := range ends {
				for _, d := range []uint64{1, 3, 1 << 32, 1 << 63, top - 1, top} {
					want := left.Cmp(new(big.Rat).SetFrac(bigOf(c), bigOf(d)))
					if got, e := Ratio(a, b, c, d); got != want || e != api.OK {
						t.Fatalf("Ratio(%d, %d, %d, %d) = %d, %d, want %d", a, b, c, d, got, e, want)
					}
				}
			}
		}
	}
}
