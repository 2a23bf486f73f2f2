package ratio

import (
	"math"
	"math/big"
	"slices"
	"testing"

	"trimtab/api"
)

const (
	most = api.MaxMilli
	many = api.MaxReplicas
)

// ends are the quantities at which answers change their ways, and some that
// aren't right.
var ends = []api.Milli{
	math.MinInt64, math.MinInt64 + 1, -most - 1, -most, -1000, -1,
	0, 1, 2, 3, 7, 499, 500, 501, 899, 900, 901, 999, 1000, 1001, 1099, 1100, 1101, 2000,
	many - 1, many, many + 1,
	1<<31 - 1, 1 << 31, 1 << 32, 1<<32 + 1, 1 << 44, most / many, most/many + 1,
	most/2 - 1, most / 2, most/2 + 1, most - 1, most,
	most + 1, most * 2, 1 << 62, math.MaxInt64 - 1, math.MaxInt64,
}

var counts = []int{
	math.MinInt, math.MinInt + 1, -many, -1000, -1,
	0, 1, 2, 3, 7, 499, 500, 501, 999, 1000, 1001, 1 << 19, many - 1, many,
	many + 1, 1<<31 - 1, 1 << 31, 1 << 32, most, math.MaxInt - 1, math.MaxInt,
}

func right(m api.Milli) bool { return m >= 0 && m <= most }

func within(n, top int) bool { return n >= 0 && n <= top }

// rights are those of ends that are right, rising.
func rights() []api.Milli {
	l := slices.DeleteFunc(slices.Clone(ends), func(m api.Milli) bool { return !right(m) })
	slices.Sort(l)
	return l
}

// divided is a times b, divided by the third number, worked out without a bound.
func divided(a, b, by int64, up bool) *big.Int {
	x := new(big.Int).Mul(big.NewInt(a), big.NewInt(b))
	if up {
		x.Add(x, big.NewInt(by-1))
	}
	return x.Div(x, big.NewInt(by))
}

// need is what Need should answer.
func need(replicas int, use, target api.Milli) (int, api.Errno) {
	switch {
	case !within(replicas, many) || !right(use) || !right(target):
		return 0, api.ErrArg
	case target == 0:
		return 0, api.ErrZero
	}
	n := divided(int64(replicas), int64(use), int64(target), true)
	if n.Cmp(big.NewInt(many)) > 0 {
		return many, api.OK
	}
	return int(n.Int64()), api.OK
}

func TestNeedTable(t *testing.T) {
	for _, c := range []struct {
		replicas    int
		use, target api.Milli
		want        int
		e           api.Errno
	}{
		{3, 900, 500, 6, api.OK}, // 5.4
		{4, 1000, 1000, 4, api.OK},
		{4, 1001, 1000, 5, api.OK},
		{4, 999, 1000, 4, api.OK},
		{4, 750, 1000, 3, api.OK},
		{4, 751, 1000, 4, api.OK},
		{1, 1, most, 1, api.OK},
		{1, most, most, 1, api.OK},
		{many, most, most, many, api.OK},
		{many, 1, most, 1, api.OK},

		// nothing is needed of nothing
		{0, 0, 1, 0, api.OK},
		{0, most, 1, 0, api.OK},
		{5, 0, 1, 0, api.OK},
		{many, 0, most, 0, api.OK},

		// around MaxReplicas: as many, one fewer, and more
		{many - 1, 500, 500, many - 1, api.OK},
		{1, many, 1, many, api.OK},
		{1, many - 1, 1, many - 1, api.OK},
		{1, many + 1, 1, many, api.OK},
		{many, 1001, 1000, many, api.OK},
		{many, 999999, 1000000, many - 1, api.OK},
		{2, many, 2, many, api.OK},
		{2, 2*many - 1, 4, many, api.OK}, // 999999.5
		{2, 2*many - 2, 4, many - 1, api.OK},
		{many - 1, 1000001, 1000000, many, api.OK},

		// as products modulo 2^64 these would be little, or nothing
		{1 << 19, 1 << 53, 1, many, api.OK},
		{1 << 19, 1 << 45, 1 << 45, 1 << 19, api.OK},
		{1 << 12, 1 << 52, 1 << 52, 1 << 12, api.OK},
		{many, most, 1, many, api.OK},
		{many, most, most - 1, many, api.OK},
		{many, most - 1, most, many, api.OK},
		{many, most / 2, most, many / 2, api.OK},

		// beyond what a float tells apart
		{1, most, most - 1, 2, api.OK},
		{999983, most - 1, most, 999983, api.OK},
		{3, most/3 + 1, most, 2, api.OK},
		{3, most / 3, most, 1, api.OK},

		{-1, 900, 500, 0, api.ErrArg},
		{many + 1, 900, 500, 0, api.ErrArg},
		{3, -1, 500, 0, api.ErrArg},
		{3, most + 1, 500, 0, api.ErrArg},
		{3, 900, -1, 0, api.ErrArg},
		{3, 900, most + 1, 0, api.ErrArg},
		{math.MinInt, math.MinInt64, math.MinInt64, 0, api.ErrArg},
		{math.MaxInt, math.MaxInt64, math.MaxInt64, 0, api.ErrArg},

		{3, 900, 0, 0, api.ErrZero},
		{0, 0, 0, 0, api.ErrZero},
		{many, most, 0, 0, api.ErrZero},

		// ErrArg comes ahead of ErrZero
		{-1, 900, 0, 0, api.ErrArg},
		{many + 1, 900, 0, 0, api.ErrArg},
		{3, -1, 0, 0, api.ErrArg},
		{3, most + 1, 0, 0, api.ErrArg},
	} {
		if got, e := Need(c.replicas, c.use, c.target); got != c.want || e != c.e {
			t.Errorf("Need(%d, %d, %d) = %d, %d, want %d, %d", c.replicas, c.use, c.target, got, e, c.want, c.e)
		}
	}
}

func TestNeedIsRoundedUp(t *testing.T) {
	for _, replicas := range counts {
		for _, use := range ends {
			for _, target := range ends {
				got, e := Need(replicas, use, target)
				if want, we := need(replicas, use, target); got != want || e != we {
					t.Fatalf("Need(%d, %d, %d) = %d, %d, want %d, %d", replicas, use, target, got, e, want, we)
				}
			}
		}
	}
}

func TestWholeTable(t *testing.T) {
	for _, c := range []struct {
		use, target api.Milli
		want        int
		e           api.Errno
	}{
		{900, 500, 2, api.OK},
		{1000, 500, 2, api.OK},
		{1001, 500, 3, api.OK},
		{500, 500, 1, api.OK},
		{1, 500, 1, api.OK},
		{0, 500, 0, api.OK},
		{0, most, 0, api.OK},
		{1, most, 1, api.OK},
		{most, most, 1, api.OK},
		{most, most - 1, 2, api.OK},
		{most, most / 2, 2, api.OK},

		// around MaxReplicas
		{many - 1, 1, many - 1, api.OK},
		{many, 1, many, api.OK},
		{many + 1, 1, many, api.OK},
		{999999001, 1000, many, api.OK},
		{999999000, 1000, many - 1, api.OK},
		{1000000001, 1000, many, api.OK},
		{most, 1, many, api.OK},
		{most, 1000, many, api.OK},

		{-1, 500, 0, api.ErrArg},
		{most + 1, 500, 0, api.ErrArg},
		{900, -1, 0, api.ErrArg},
		{900, most + 1, 0, api.ErrArg},
		{math.MinInt64, math.MaxInt64, 0, api.ErrArg},

		{1, 0, 0, api.ErrZero},
		{0, 0, 0, api.ErrZero},
		{most, 0, 0, api.ErrZero},

		// ErrArg comes ahead of ErrZero
		{-1, 0, 0, api.ErrArg},
		{most + 1, 0, 0, api.ErrArg},
	} {
		if got, e := Whole(c.use, c.target); got != c.want || e != c.e {
			t.Errorf("Whole(%d, %d) = %d, %d, want %d, %d", c.use, c.target, got, e, c.want, c.e)
		}
	}
}

func TestWholeIsRoundedUp(t *testing.T) {
	for _, use := range ends {
		for _, target := range ends {
			got, e := Whole(use, target)
			if want, we := need(1, use, target); got != want || e != we {
				t.Errorf("Whole(%d, %d) = %d, %d, want %d, %d", use, target, got, e, want, we)
			}
		}
	}
}

func TestNearTable(t *testing.T) {
	for _, c := range []struct {
		use, target api.Milli
		tolerance   int
		want        bool
		e           api.Errno
	}{
		{1000, 1000, 0, true, api.OK},
		{1001, 1000, 0, false, api.OK},
		{999, 1000, 0, false, api.OK},
		{1100, 1000, 100, true, api.OK},
		{1101, 1000, 100, false, api.OK},
		{900, 1000, 100, true, api.OK},
		{899, 1000, 100, false, api.OK},
		{0, 1000, 1000, true, api.OK},
		{0, 1000, 999, false, api.OK},
		{2000, 1000, 1000, true, api.OK},
		{2001, 1000, 1000, false, api.OK},

		// it is of the target, not of the use
		{1000, 900, 100, false, api.OK},
		{900, 1000, 100, true, api.OK},
		{990, 900, 100, true, api.OK},

		// nothing is rounded: a tenth of 15 is 1.5
		{16, 15, 100, true, api.OK},
		{17, 15, 100, false, api.OK},
		{14, 15, 100, true, api.OK},
		{13, 15, 100, false, api.OK},
		{2, 1, 999, false, api.OK},
		{0, 1, 999, false, api.OK},
		{2, 1, 1000, true, api.OK},
		{3, 1, 1000, false, api.OK},

		{0, 1, 0, false, api.OK},
		{most, most, 0, true, api.OK},
		{most - 1, most, 0, false, api.OK},
		{most, most - 1, 0, false, api.OK},
		{0, most, 1000, true, api.OK},
		{0, most, 999, false, api.OK},
		{most, 1, 1000, false, api.OK},
		{most, most / 2, 1000, true, api.OK},
		{most, most/2 - 1, 1000, false, api.OK},
		{most, most / 2, 999, false, api.OK},

		{-1, 1000, 100, false, api.ErrArg},
		{most + 1, 1000, 100, false, api.ErrArg},
		{1000, -1, 100, false, api.ErrArg},
		{1000, most + 1, 100, false, api.ErrArg},
		{1000, 1000, -1, false, api.ErrArg},
		{1000, 1000, 1001, false, api.ErrArg},
		{-1, -1, 0, false, api.ErrArg},
		{1000, 1000, math.MinInt, false, api.ErrArg},
		{1000, 1000, math.MaxInt, false, api.ErrArg},

		{1000, 0, 100, false, api.ErrZero},
		{0, 0, 0, false, api.ErrZero},
		{0, 0, 1000, false, api.ErrZero},

		// ErrArg comes ahead of ErrZero
		{-1, 0, 100, false, api.ErrArg},
		{most + 1, 0, 100, false, api.ErrArg},
		{0, 0, -1, false, api.ErrArg},
		{0, 0, 1001, false, api.ErrArg},
	} {
		if got, e := Near(c.use, c.target, c.tolerance); got != c.want || e != c.e {
			t.Errorf("Near(%d, %d, %d) = %v, %d, want %v, %d", c.use, c.target, c.tolerance, got, e, c.want, c.e)
		}
	}
}

// near is what Near should answer.
func near(use, target api.Milli, tolerance int) (bool, api.Errno) {
	switch {
	case !right(use) || !right(target) || !within(tolerance, 1000):
		return false, api.ErrArg
	case target == 0:
		return false, api.ErrZero
	}
	apart := new(big.Rat).SetFrac64(int64(use-target), int64(target))
	return apart.Abs(apart).Cmp(big.NewRat(int64(tolerance), 1000)) <= 0, api.OK
}

func TestNearIsOfTheTarget(t *testing.T) {
	for _, use := range ends {
		for _, target := range ends {
			for _, tolerance := range counts {
				got, e := Near(use, target, tolerance)
				if want, we := near(use, target, tolerance); got != want || e != we {
					t.Fatalf("Near(%d, %d, %d) = %v, %d, want %v, %d", use, target, tolerance, got, e, want, we)
				}
			}
		}
	}
}

func TestPercentTable(t *testing.T) {
	for _, c := range []struct {
		n, thousandths int
		up             bool
		want           int
		e              api.Errno
	}{
		{7, 500, true, 4, api.OK},
		{7, 500, false, 3, api.OK},
		{8, 500, true, 4, api.OK},
		{8, 500, false, 4, api.OK},
		{1, 1, true, 1, api.OK},
		{1, 1, false, 0, api.OK},
		{1, 999, true, 1, api.OK},
		{1, 999, false, 0, api.OK},
		{1, 1000, true, 1, api.OK},
		{1, 1000, false, 1, api.OK},
		{1, 1001, true, 2, api.OK},
		{1, 1001, false, 1, api.OK},
		{4, 1000, false, 4, api.OK},
		{4, 2500, true, 10, api.OK},
		{0, 0, true, 0, api.OK},
		{0, 1000000, true, 0, api.OK},
		{many, 0, true, 0, api.OK},
		{many, 1, true, 1000, api.OK},

		// more than MaxReplicas stays as it is
		{many, 1001, true, 1001000, api.OK},
		{1000, 1000000, false, many, api.OK},
		{1001, 1000000, false, 1001000, api.OK},
		{many, 1000000, true, 1000000000, api.OK},
		{many, 1000000, false, 1000000000, api.OK},
		{many - 1, 999999, true, 999998001, api.OK},
		{many - 1, 999999, false, 999998000, api.OK},

		{-1, 500, true, 0, api.ErrArg},
		{many + 1, 500, false, 0, api.ErrArg},
		{7, -1, true, 0, api.ErrArg},
		{7, 1000001, false, 0, api.ErrArg},
		{0, -1, true, 0, api.ErrArg},
		{-1, 0, false, 0, api.ErrArg},
		{0, 1000001, false, 0, api.ErrArg},
		{many + 1, 0, true, 0, api.ErrArg},
		{-1, -1, true, 0, api.ErrArg},
		{math.MinInt, math.MinInt, true, 0, api.ErrArg},
		{math.MaxInt, math.MaxInt, false, 0, api.ErrArg},
	} {
		if got, e := Percent(c.n, c.thousandths, c.up); got != c.want || e != c.e {
			t.Errorf("Percent(%d, %d, %v) = %d, %d, want %d, %d", c.n, c.thousandths, c.up, got, e, c.want, c.e)
		}
	}
}

func TestPercentIsRounded(t *testing.T) {
	for _, n := range counts {
		for _, thousandths := range counts {
			for _, up := range []bool{false, true} {
				want, we := 0, api.ErrArg
				if within(n, many) && within(thousandths, 1000000) {
					want, we = int(divided(int64(n), int64(thousandths), 1000, up).Int64()), api.OK
				}
				if got, e := Percent(n, thousandths, up); got != want || e != we {
					t.Fatalf("Percent(%d, %d, %v) = %d, %d, want %d, %d", n, thousandths, up, got, e, want, we)
				}
			}
		}
	}
}

func TestShareTable(t *testing.T) {
	for _, c := range []struct {
		part, whole api.Milli
		want        int
		e           api.Errno
	}{
		{600, 1000, 600, api.OK},
		{0, 1, 0, api.OK},
		{1, 1, 1000, api.OK},
		{1, 2, 500, api.OK},
		{1, 3, 333, api.OK},
		{2, 3, 666, api.OK},
		{1, 1000, 1, api.OK},
		{1, 1001, 0, api.OK},
		{2, 1001, 1, api.OK},
		{1000, 1001, 999, api.OK},
		{1001, 1001, 1000, api.OK},
		{0, most, 0, api.OK},
		{1, most, 0, api.OK},
		{most / 2, most, 500, api.OK},
		{most/2 - 1, most, 499, api.OK},
		{most - 1, most, 999, api.OK},
		{most, most, 1000, api.OK},

		{2, 1, 0, api.ErrArg},
		{most, most - 1, 0, api.ErrArg},
		{-1, 1000, 0, api.ErrArg},
		{most + 1, most, 0, api.ErrArg},
		{most, most + 1, 0, api.ErrArg},
		{most + 1, most + 1, 0, api.ErrArg},
		{-2, -1, 0, api.ErrArg},
		{0, -1, 0, api.ErrArg},
		{math.MinInt64, math.MaxInt64, 0, api.ErrArg},
		{math.MaxInt64, math.MinInt64, 0, api.ErrArg},

		{0, 0, 0, api.ErrZero},

		// ErrArg comes ahead of ErrZero: what is more than nothing is more than the whole
		{1, 0, 0, api.ErrArg},
		{most, 0, 0, api.ErrArg},
		{-1, 0, 0, api.ErrArg},
		{most + 1, 0, 0, api.ErrArg},
	} {
		if got, e := Share(c.part, c.whole); got != c.want || e != c.e {
			t.Errorf("Share(%d, %d) = %d, %d, want %d, %d", c.part, c.whole, got, e, c.want, c.e)
		}
	}
}

func TestShareIsRoundedDown(t *testing.T) {
	for _, part := range ends {
		for _, whole := range ends {
			want, we := 0, api.ErrArg
			switch {
			case !right(part) || !right(whole) || part > whole:
			case whole == 0:
				we = api.ErrZero
			default:
				want, we = int(divided(int64(part), 1000, int64(whole), false).Int64()), api.OK
			}
			if got, e := Share(part, whole); got != want || e != we {
				t.Errorf("Share(%d, %d) = %d, %d, want %d, %d", part, whole, got, e, want, we)
			}
		}
	}
}

// rising fails where an answer is less than the one ahead of it.
func rising(t *testing.T, what string, answers []int) {
	t.Helper()
	if !slices.IsSorted(answers) {
		t.Fatalf("%s falls: %v", what, answers)
	}
}

// answered is the answer of a call that has no error.
func answered(t *testing.T, n int, e api.Errno) int {
	t.Helper()
	if e != api.OK {
		t.Fatalf("error %d", e)
	}
	return n
}

// TestMoreUseNeedsNoFewer is P3.2's first half.
func TestMoreUseNeedsNoFewer(t *testing.T) {
	uses := rights()
	for _, target := range uses[1:] {
		for _, replicas := range []int{0, 1, 3, 7, 1000, many - 1, many} {
			var needs, wholes []int
			for _, use := range uses {
				n, e := Need(replicas, use, target)
				needs = append(needs, answered(t, n, e))
				n, e = Whole(use, target)
				wholes = append(wholes, answered(t, n, e))
			}
			rising(t, "Need", needs)
			rising(t, "Whole", wholes)
		}
	}
}

// TestGreaterTargetNeedsNoMore is P3.2's second half.
func TestGreaterTargetNeedsNoMore(t *testing.T) {
	uses := rights()
	targets := rights()[1:]
	slices.Reverse(targets)
	for _, use := range uses {
		for _, replicas := range []int{0, 1, 3, 7, 1000, many - 1, many} {
			var needs, wholes []int
			for _, target := range targets {
				n, e := Need(replicas, use, target)
				needs = append(needs, answered(t, n, e))
				n, e = Whole(use, target)
				wholes = append(wholes, answered(t, n, e))
			}
			rising(t, "Need", needs)
			rising(t, "Whole", wholes)
		}
	}
}

// TestStepByStep is P3.2 where the answer changes at each few thousandths.
func TestStepByStep(t *testing.T) {
	var byUse, byTarget []int
	for m := api.Milli(1); m <= 3000; m++ {
		n, e := Need(17, m, 700)
		byUse = append(byUse, answered(t, n, e))
		n, e = Need(17, 700, 3001-m)
		byTarget = append(byTarget, answered(t, n, e))
	}
	rising(t, "Need by use", byUse)
	rising(t, "Need by target", byTarget)
	if first, last := byUse[0], byUse[2999]; first != 1 || last != 73 {
		t.Errorf("Need by use goes from %d to %d, want 1 to 73", first, last)
	}
	if first, last := byTarget[0], byTarget[2999]; first != 4 || last != 11900 {
		t.Errorf("Need by target goes from %d to %d, want 4 to 11900", first, last)
	}
}
