package policy

import (
	"math"
	"math/big"
	"math/rand"
	"slices"
	"testing"

	"trimtab/api"
)

// most is MaxReplicas.
const most = api.MaxReplicas

// ends are numbers at and around the ends of what counts, and of their type.
var ends = []int{math.MinInt, math.MinInt + 1, -1 << 32, -most, -1, 0, 1, 2, 999, 1000, 1001, most - 1, most, most + 1, 1 << 32, 1<<32 + 1, math.MaxInt - 1, math.MaxInt}

// ticks are ticks at and around the ends of their type, and of what may be.
var ticks = []int64{math.MinInt64, math.MinInt64 + 1, math.MinInt64 + 1800, -1 << 62, -1801, -1800, -1, 0, 1, 5, 1799, 1800, 1801, 1 << 32, api.MaxClock, math.MaxInt64 - 1800, math.MaxInt64 - 1, math.MaxInt64}

// periods are periods at and around their ends.
var periods = []int{math.MinInt, -1 << 32, -1, 0, 1, 2, 5, 1799, 1800, 1801, 1 << 32, 1<<32 + 1, 1 << 62, math.MaxInt - 1, math.MaxInt}

// by is a behavior of these policies.
func by(pick int, l ...api.Policy) api.Behavior { return api.Behavior{Pick: pick, Policies: l} }

// pods and mille are a policy of so many pods, or thousandths, in a period of 10.
func pods(n int) api.Policy  { return api.Policy{Value: n, Period: 10} }
func mille(n int) api.Policy { return api.Policy{Percent: true, Value: n, Period: 10} }

// The chapter's words, in numbers without bounds.

// whole is a number without bounds.
func whole[T int | int64](n T) *big.Int { return big.NewInt(int64(n)) }

// between is such a number, at least 0, at most MaxReplicas.
func between(n *big.Int) *big.Int {
	if n.Sign() < 0 {
		return whole(0)
	}
	if n.Cmp(whole(most)) > 0 {
		return whole(most)
	}
	return n
}

// done is how much was done above a tick less a period, one way.
func done(past []api.Scaled, now int64, period int, up bool) *big.Int {
	sum := whole(0)
	edge := new(big.Int).Sub(whole(now), whole(period))
	for _, d := range past {
		if period < 1 || whole(d.At).Cmp(edge) <= 0 {
			continue
		}
		low, high := between(whole(d.From)), between(whole(d.To))
		if !up {
			low, high = high, low
		}
		if low.Cmp(high) < 0 {
			sum.Add(sum, new(big.Int).Sub(high, low))
		}
	}
	return sum
}

// started is the start of a period.
func started(past []api.Scaled, now int64, period, there int, up bool) *big.Int {
	sum := done(past, now, period, up)
	if up {
		sum.Neg(sum)
	}
	return between(sum.Add(sum, between(whole(there))))
}

// allowed is a policy's limit.
func allowed(p api.Policy, past []api.Scaled, now int64, there int, up bool) int {
	start := started(past, now, p.Period, there, up)
	value := between(whole(p.Value))
	if p.Percent {
		if !up && value.Cmp(whole(1000)) > 0 {
			value = whole(1000)
		}
		value = new(big.Int).Mul(value, start)
		value.Add(value, whole(999)).Div(value, whole(1000))
	}
	if !up {
		value = new(big.Int).Neg(value)
	}
	return int(between(new(big.Int).Add(start, value)).Int64())
}

// limited is a behavior's limit.
func limited(b api.Behavior, past []api.Scaled, now int64, there int, up bool) int {
	var l []int
	for _, p := range b.Policies {
		l = append(l, allowed(p, past, now, there, up))
	}
	slices.Sort(l)
	switch {
	case len(l) == 0:
	case up && b.Pick == api.PickMax, !up && b.Pick == api.PickMin:
		return l[len(l)-1]
	case up && b.Pick == api.PickMin, !up && b.Pick == api.PickMax:
		return l[0]
	}
	return int(between(whole(there)).Int64())
}

// gone is how far one goes.
func gone(up, down api.Behavior, past []api.Scaled, now int64, there, toward int) int {
	n, goal := int(between(whole(there)).Int64()), int(between(whole(toward)).Int64())
	switch {
	case goal > n:
		return max(n, min(goal, limited(up, past, now, there, true)))
	case goal < n:
		return min(n, max(goal, limited(down, past, now, there, false)))
	}
	return n
}

// kept is what is kept.
func kept(past []api.Scaled, now int64) []api.Scaled {
	edge := new(big.Int).Sub(whole(now), whole(1800))
	var l []api.Scaled
	for _, d := range past {
		if whole(d.At).Cmp(edge) > 0 {
			l = append(l, d)
		}
	}
	for len(l) > 32 {
		l = l[1:]
	}
	return l
}

// P22.1, Start

// row is what was done at 1 to 9: 3 more, 2 less, 4 more, 6 less, nothing, 1 more.
var row = []api.Scaled{{At: 1, From: 10, To: 13}, {At: 3, From: 13, To: 11}, {At: 5, From: 11, To: 15}, {At: 5, From: 15, To: 9}, {At: 7, From: 9, To: 9}, {At: 9, From: 9, To: 10}}

func TestStart(t *testing.T) {
	for _, x := range []struct {
		now           int64
		period, there int
		up, down      int
	}{
		{9, 1, 10, 9, 10}, {9, 4, 10, 9, 10}, {9, 5, 10, 5, 16}, {9, 6, 10, 5, 16}, {9, 7, 10, 5, 18}, {9, 8, 10, 5, 18}, {9, 9, 10, 2, 18}, {9, 1800, 10, 2, 18},
		{10, 1, 10, 10, 10}, {10, 2, 10, 9, 10}, {18, 9, 10, 10, 10}, {18, 10, 10, 9, 10},
		{9, 0, 10, 10, 10}, {9, -1, 10, 10, 10}, {9, math.MinInt, 10, 10, 10},
		{1, 0, 10, 10, 10}, {0, -5, 10, 10, 10}, {4, 1, 10, 5, 16}, // what is above the tick was done, too
		{9, 9, 8, 0, 16}, {9, 9, 7, 0, 15}, {9, 9, 0, 0, 8}, {9, 9, -1, 0, 8}, {9, 9, math.MinInt, 0, 8},
		{9, 9, most - 8, most - 16, most}, {9, 9, most - 7, most - 15, most}, {9, 9, most, most - 8, most}, {9, 9, most + 1, most - 8, most}, {9, 9, math.MaxInt, most - 8, most},
	} {
		if n := Start(row, x.now, x.period, x.there, true); n != x.up {
			t.Errorf("Start(%d, %d, %d, up): %d, want %d", x.now, x.period, x.there, n, x.up)
		}
		if n := Start(row, x.now, x.period, x.there, false); n != x.down {
			t.Errorf("Start(%d, %d, %d, down): %d, want %d", x.now, x.period, x.there, n, x.down)
		}
	}
}

// From and to how many one went are below 0 and above MaxReplicas as at these.
func TestStartFromAndTo(t *testing.T) {
	for _, from := range ends {
		for _, to := range ends {
			past := []api.Scaled{{At: 5, From: from, To: to}}
			for _, there := range ends {
				starts(t, past, 9, 5, there)
			}
		}
	}
}

// A tick less a period may be below all ticks.
func TestStartTicks(t *testing.T) {
	for _, at := range ticks {
		past := []api.Scaled{{At: at, From: 4, To: 7}, {At: at, From: 7, To: 2}}
		for _, now := range ticks {
			for _, period := range periods {
				starts(t, past, now, period, 10)
			}
		}
	}
}

// starts wants the start of a period, both ways.
func starts(t *testing.T, past []api.Scaled, now int64, period, there int) {
	t.Helper()
	for _, up := range []bool{false, true} {
		n := Start(past, now, period, there, up)
		if want := int(started(past, now, period, there, up).Int64()); n != want {
			t.Errorf("Start(%v, %d, %d, %d, %v): %d, want %d", past, now, period, there, up, n, want)
		}
	}
}

func TestStartNothingDone(t *testing.T) {
	for _, past := range [][]api.Scaled{nil, {}} {
		for _, x := range [][2]int{{math.MinInt, 0}, {-1, 0}, {0, 0}, {1, 1}, {7, 7}, {most, most}, {most + 1, most}, {math.MaxInt, most}} {
			for _, up := range []bool{false, true} {
				if n := Start(past, 9, 5, x[0], up); n != x[1] {
					t.Errorf("Start(%d, %v): %d", x[0], up, n)
				}
			}
		}
	}
}

// What was done is added up as a whole, however much of it there is, in whatever
// order.
func TestStartLongRow(t *testing.T) {
	var past []api.Scaled
	for i := range 5000 {
		past = append(past, api.Scaled{At: int64(9 - i%3), From: 0, To: most}, api.Scaled{At: 9, From: most, To: 0})
	}
	past = append(past, api.Scaled{At: 9, From: 4, To: 4})
	if n := Start(past, 9, 5, most, true); n != 0 {
		t.Error(n)
	}
	if n := Start(past, 9, 5, 0, false); n != most {
		t.Error(n)
	}
}

// P22.1, Limit

func TestLimitOne(t *testing.T) {
	for _, x := range []struct {
		p        api.Policy
		there    int
		up, down int
	}{
		{pods(4), 10, 14, 6}, {pods(0), 10, 10, 10}, {pods(-1), 10, 10, 10}, {pods(math.MinInt), 10, 10, 10},
		{pods(10), 10, 20, 0}, {pods(11), 10, 21, 0}, {pods(9), 10, 19, 1}, {pods(4), 0, 4, 0}, {pods(4), -5, 4, 0},
		{pods(4), most - 4, most, most - 8}, {pods(4), most - 3, most, most - 7}, {pods(4), most, most, most - 4}, {pods(4), math.MaxInt, most, most - 4},
		{pods(most), 10, most, 0}, {pods(most + 1), 0, most, 0}, {pods(math.MaxInt), 10, most, 0}, {pods(most - 10), 10, most, 0}, {pods(most - 11), 10, most - 1, 0},
		{pods(most), most, most, 0}, {pods(most - 1), most, most, 1}, {pods(most + 1), most, most, 0}, {pods(math.MaxInt), math.MaxInt, most, 0},
		{mille(500), 10, 15, 5}, {mille(0), 10, 10, 10}, {mille(-1), 10, 10, 10}, {mille(math.MinInt), 10, 10, 10},
		{mille(250), 10, 13, 7}, {mille(1), 10, 11, 9}, {mille(1), 1, 2, 0}, {mille(1), 1000, 1001, 999}, {mille(1), 1001, 1003, 999}, {mille(100), 10, 11, 9}, {mille(101), 10, 12, 8},
		{mille(999), 10, 20, 0}, {mille(999), 1000, 1999, 1}, {mille(1000), 10, 20, 0}, {mille(1001), 10, 21, 0}, {mille(2500), 3, 11, 0}, {mille(1000), 0, 0, 0}, {mille(most), 0, 0, 0},
		{mille(most), 1, 1001, 0}, {mille(most), 999, 999999, 0}, {mille(most), 1000, most, 0}, {mille(most + 1), 1, 1001, 0}, {mille(math.MaxInt), 1, 1001, 0}, {mille(math.MaxInt), math.MaxInt, most, 0},
		{mille(1000), most / 2, most, 0}, {mille(1000), most/2 + 1, most, 0}, {mille(1000), most/2 - 1, most - 2, 0}, {mille(999), most, most, 1000},
	} {
		for _, pick := range []int{api.PickMax, api.PickMin} {
			b := by(pick, x.p)
			if n := Limit(b, nil, 9, x.there, true); n != x.up {
				t.Errorf("Limit(%v, %d, up): %d, want %d", b, x.there, n, x.up)
			}
			if n := Limit(b, nil, 9, x.there, false); n != x.down {
				t.Errorf("Limit(%v, %d, down): %d, want %d", b, x.there, n, x.down)
			}
		}
	}
}

// Each policy goes from the start of its own period.
func TestLimitFromStart(t *testing.T) {
	for _, x := range []struct {
		p        api.Policy
		up, down int
	}{
		{api.Policy{Value: 3, Period: 1}, 12, 7}, {api.Policy{Value: 3, Period: 5}, 8, 13}, {api.Policy{Value: 3, Period: 7}, 8, 15}, {api.Policy{Value: 3, Period: 9}, 5, 15},
		{api.Policy{Value: 9, Period: 0}, 19, 1}, {api.Policy{Value: 9, Period: -3}, 19, 1}, {api.Policy{Value: 0, Period: 9}, 2, 18},
		{api.Policy{Percent: true, Value: 500, Period: 5}, 8, 8}, {api.Policy{Percent: true, Value: 250, Period: 9}, 3, 13}, {api.Policy{Percent: true, Value: 250, Period: 0}, 13, 7},
	} {
		b := by(api.PickMax, x.p)
		if n := Limit(b, row, 9, 10, true); n != x.up {
			t.Errorf("Limit(%v, up): %d, want %d", b, n, x.up)
		}
		if n := Limit(b, row, 9, 10, false); n != x.down {
			t.Errorf("Limit(%v, down): %d, want %d", b, n, x.down)
		}
	}
}

func TestLimitPick(t *testing.T) {
	l := []api.Policy{pods(4), mille(200), pods(1), mille(350), pods(3)} // 4, 2, 1, 4, 3 of 10
	for _, x := range []struct {
		pick     int
		up, down int
	}{
		{api.PickMax, 14, 6}, {api.PickMin, 11, 9}, {api.PickNone, 10, 10},
		{3, 10, 10}, {-1, 10, 10}, {1 << 32, 10, 10}, {1<<32 + 1, 10, 10}, {math.MinInt, 10, 10}, {math.MaxInt, 10, 10},
	} {
		for i := range l { // in whatever order
			b := by(x.pick, slices.Concat(l[i:], l[:i])...)
			if n := Limit(b, nil, 9, 10, true); n != x.up {
				t.Errorf("Limit(%v, up): %d, want %d", b, n, x.up)
			}
			if n := Limit(b, nil, 9, 10, false); n != x.down {
				t.Errorf("Limit(%v, down): %d, want %d", b, n, x.down)
			}
		}
	}
}

// Nowhere: as many as there are, not as there were, and as far as that counts.
func TestLimitNowhere(t *testing.T) {
	for _, b := range []api.Behavior{{}, by(api.PickMin), {Pick: api.PickMax, Policies: []api.Policy{}}, by(api.PickNone), by(api.PickNone, pods(4), mille(500)), by(7, pods(4)), by(-1, pods(0))} {
		for _, x := range [][2]int{{math.MinInt, 0}, {-1, 0}, {0, 0}, {10, 10}, {most, most}, {most + 1, most}, {math.MaxInt, most}} {
			for _, up := range []bool{false, true} {
				if n := Limit(b, row, 9, x[0], up); n != x[1] {
					t.Errorf("Limit(%v, %d, %v): %d", b, x[0], up, n)
				}
			}
		}
	}
}

// A window is nothing that a limit hangs on.
func TestLimitWindow(t *testing.T) {
	for _, w := range ends {
		b := by(api.PickMax, pods(3))
		b.Window = w
		if up, down := Limit(b, nil, 9, 10, true), Limit(b, nil, 9, 10, false); up != 13 || down != 7 {
			t.Error(w, up, down)
		}
	}
}

// Of more policies than may be all count.
func TestLimitMany(t *testing.T) {
	var l []api.Policy
	for i := range 100 {
		l = append(l, pods(50+i))
	}
	if n := Limit(by(api.PickMax, l...), nil, 9, 10, true); n != 159 {
		t.Error(n)
	}
	if n := Limit(by(api.PickMin, l...), nil, 9, 1000, false); n != 950 {
		t.Error(n)
	}
}

// P22.1, P22.2, Go

// fast and slow are the example's policies up and such as go down by 1.
var (
	fast = by(api.PickMax, mille(1000), pods(4))
	slow = by(api.PickMax, pods(1))
)

func TestGo(t *testing.T) {
	for _, x := range []struct {
		there, toward, want int
	}{
		{4, 20, 8}, {4, 8, 8}, {4, 7, 7}, {4, 9, 8}, {4, 5, 5}, {4, 4, 4}, {4, 3, 3}, {4, 2, 3}, {4, 0, 3},
		{10, 40, 20}, {10, 21, 20}, {10, 20, 20}, {10, 19, 19}, {0, 9, 4}, {0, 0, 0}, {1, 0, 0},
		{-3, 9, 4}, {math.MinInt, 2, 2}, {4, -1, 3}, {0, -1, 0}, {1, math.MinInt, 0}, {-2, -5, 0}, {-5, -2, 0},
		{4, math.MaxInt, 8}, {most - 1, math.MaxInt, most}, {most, most + 1, most}, {most + 1, most, most}, {most + 5, most + 3, most}, {math.MaxInt, 0, most - 1}, {most - 1, most, most},
	} {
		if n := Go(fast, slow, nil, 20, x.there, x.toward); n != x.want {
			t.Errorf("Go(%d, %d): %d, want %d", x.there, x.toward, n, x.want)
		}
	}
}

// Where the limit lies behind, one stays.
func TestGoNotTheOtherWay(t *testing.T) {
	up := []api.Scaled{{At: 18, From: 4, To: 10}} // by 4 from 4 is 8
	for _, toward := range []int{10, 11, 40, math.MaxInt} {
		if n := Go(by(api.PickMax, pods(4)), slow, up, 20, 10, toward); n != 10 {
			t.Errorf("Go up to %d: %d", toward, n)
		}
	}
	down := []api.Scaled{{At: 18, From: 10, To: 4}} // by 1 from 10 is 9
	for _, toward := range []int{4, 3, 0, -1, math.MinInt} {
		if n := Go(fast, slow, down, 20, 4, toward); n != 4 {
			t.Errorf("Go down to %d: %d", toward, n)
		}
	}
	// What went one way doesn't count for the other one.
	if n := Go(fast, slow, up, 20, 10, 0); n != 9 {
		t.Error(n)
	}
	if n := Go(fast, slow, down, 20, 4, 40); n != 8 {
		t.Error(n)
	}
}

// No policy goes nowhere, each way by itself.
func TestGoNowhere(t *testing.T) {
	for _, none := range []api.Behavior{{}, by(api.PickMin), by(api.PickNone, pods(9)), by(5, pods(9))} {
		if n := Go(none, slow, nil, 20, 4, 40); n != 4 {
			t.Error(none, n)
		}
		if n := Go(none, slow, nil, 20, 4, 0); n != 3 {
			t.Error(none, n)
		}
		if n := Go(fast, none, nil, 20, 4, 0); n != 4 {
			t.Error(none, n)
		}
		if n := Go(fast, none, nil, 20, 4, 40); n != 8 {
			t.Error(none, n)
		}
	}
}

// P2: whoever goes on and on, and writes down what was done, adds no more in any
// period than the policy allows of how many there were ahead of it.
func TestGoNoFaster(t *testing.T) {
	for _, p := range []api.Policy{{Value: 3, Period: 5}, {Percent: true, Value: 100, Period: 5}, {Value: 1, Period: 1}, {Percent: true, Value: 1, Period: 7}} {
		rising, falling := walked(p, 10, 500), walked(p, 500, 10)
		for i := p.Period; i < len(rising); i++ {
			if high := allowed(p, nil, 0, rising[i-p.Period], true); rising[i] > high || rising[i] == 10 {
				t.Fatalf("%v: %d at %d, then %d", p, rising[i-p.Period], i-p.Period, rising[i])
			}
			if low := allowed(p, nil, 0, falling[i-p.Period], false); falling[i] < low || falling[i] == 500 {
				t.Fatalf("%v: %d at %d, then %d", p, falling[i-p.Period], i-p.Period, falling[i])
			}
		}
	}
}

// walked is how many there are at each of 100 ticks behind the first one, by a
// policy both ways.
func walked(p api.Policy, there, toward int) []int {
	b := by(api.PickMax, p)
	var past []api.Scaled
	l := []int{there}
	for now := int64(1); now <= 100; now++ {
		n := Go(b, b, past, now, there, toward)
		past = append(Keep(past, now), api.Scaled{At: now, From: there, To: n})
		there = n
		l = append(l, n)
	}
	return l
}

// P22.1, Keep

// doneAt is what was done at some ticks.
func doneAt(l ...int64) []api.Scaled {
	var past []api.Scaled
	for i, at := range l {
		past = append(past, api.Scaled{At: at, From: i, To: i + 1})
	}
	return past
}

// each is so many ticks from one on.
func each(from int64, n int) []int64 {
	var l []int64
	for i := range n {
		l = append(l, from+int64(i))
	}
	return l
}

func TestKeep(t *testing.T) {
	for _, x := range []struct {
		past []api.Scaled
		now  int64
		from int // what is kept are all from this one on
	}{
		{doneAt(5), 5, 0}, {doneAt(5), 1804, 0}, {doneAt(5), 1805, 1}, {doneAt(5), 1806, 1}, {doneAt(0), 1799, 0}, {doneAt(0), 1800, 1},
		{doneAt(5, 6, 7), 1804, 0}, {doneAt(5, 6, 7), 1805, 1}, {doneAt(5, 6, 7), 1806, 2}, {doneAt(5, 6, 7), 1807, 3}, {doneAt(5, 5, 6), 1805, 2},
		{doneAt(5, 9, 100), 0, 0}, {doneAt(5, 9, 100), math.MinInt64, 0}, {doneAt(5, 9, 100), math.MaxInt64, 3}, {doneAt(5, 9, 100), api.MaxClock, 3},
		{doneAt(each(100, 31)...), 200, 0}, {doneAt(each(100, 32)...), 200, 0}, {doneAt(each(100, 33)...), 200, 1}, {doneAt(each(100, 100)...), 200, 68},
		{doneAt(each(100, 40)...), 1905, 8}, {doneAt(each(100, 40)...), 1907, 8}, {doneAt(each(100, 40)...), 1908, 9}, {doneAt(each(100, 40)...), 1939, 40},
		{nil, 9, 0}, {[]api.Scaled{}, 9, 0},
	} {
		l := Keep(x.past, x.now)
		if !slices.Equal(l, x.past[x.from:]) {
			t.Errorf("Keep(%v, %d): %v", x.past, x.now, l)
		}
	}
}

// What stands in no order is kept in the one that it stands in; what is kept
// stays as it is, whatever it counts as.
func TestKeepAsItIs(t *testing.T) {
	past := []api.Scaled{{At: 3000, From: -5, To: math.MaxInt}, {At: 1200, From: 1, To: 2}, {At: 2000, From: math.MinInt, To: most + 1}, {At: math.MaxInt64}, {At: math.MinInt64, From: 4}, {At: 1201, From: 7, To: 7}}
	if l := Keep(past, 3000); !slices.Equal(l, []api.Scaled{past[0], past[2], past[3], past[5]}) {
		t.Error(l)
	}
}

func TestKeepTicks(t *testing.T) {
	past := doneAt(ticks...)
	for _, now := range ticks {
		for i := range past {
			if l := Keep(past[:i], now); !slices.Equal(l, kept(past[:i], now)) {
				t.Errorf("Keep(%v, %d): %v", past[:i], now, l)
			}
		}
	}
}

// P22.2

// Nothing that is handed in is changed, its spare room neither; what is kept is
// new memory.
func TestMemory(t *testing.T) {
	past := slices.Grow(slices.Clone(row), 4)
	room := past[:cap(past)]
	b := api.Behavior{Policies: slices.Grow([]api.Policy{mille(500), pods(1), pods(3), mille(100)}, 4)}
	policies := b.Policies[:cap(b.Policies)]
	wasPast, wasPolicies := slices.Clone(room), slices.Clone(policies)
	for _, pick := range []int{api.PickMax, api.PickMin, api.PickNone} {
		b.Pick = pick
		for _, up := range []bool{false, true} {
			Start(past, 9, 5, 10, up)
			Limit(b, past, 9, 10, up)
		}
		Go(b, b, past, 9, 10, 40)
		Go(b, b, past, 9, 10, 2)
	}
	one, other := Keep(past, 1804), Keep(past, 1804)
	for i := range one {
		one[i] = api.Scaled{At: 1, From: 1, To: 1}
	}
	one = append(one[:0], doneAt(4, 5, 6)...)
	if !slices.Equal(room, wasPast) || !slices.Equal(policies, wasPolicies) {
		t.Error(room, policies)
	}
	if !slices.Equal(other, row[2:]) {
		t.Error(other)
	}
	past[3] = api.Scaled{}
	if !slices.Equal(other, row[2:]) {
		t.Error(other)
	}
}

// Chance

// some is one of a row.
func some[T any](r *rand.Rand, l []T) T { return l[r.Intn(len(l))] }

// number is a number by chance: mostly of the size of a small workload.
func number(r *rand.Rand) int {
	switch r.Intn(8) {
	case 0:
		return some(r, ends)
	case 1:
		return r.Intn(most + 1)
	}
	return r.Intn(40)
}

// span is a period by chance.
func span(r *rand.Rand) int {
	if r.Intn(8) == 0 {
		return some(r, periods)
	}
	return 1 + r.Intn(20)
}

// pasts is what was done by chance, around a tick.
func pasts(r *rand.Rand, now int64) []api.Scaled {
	var l []api.Scaled
	for range r.Intn(6) {
		at := now - int64(r.Intn(22)) + 2
		if r.Intn(10) == 0 {
			at = some(r, ticks)
		}
		l = append(l, api.Scaled{At: at, From: number(r), To: number(r)})
	}
	return l
}

// behavior is a behavior by chance.
func behavior(r *rand.Rand) api.Behavior {
	b := api.Behavior{Pick: r.Intn(2), Window: number(r)}
	if r.Intn(10) == 0 {
		b.Pick = some(r, ends)
	}
	for range r.Intn(6) {
		p := api.Policy{Value: number(r), Period: span(r)}
		if r.Intn(2) == 0 {
			p.Percent, p.Value = true, number(r)*r.Intn(100)
		}
		b.Policies = append(b.Policies, p)
	}
	return b
}

func TestChance(t *testing.T) {
	r := rand.New(rand.NewSource(22))
	moved := 0
	for range 60000 {
		now := int64(r.Intn(100))
		if r.Intn(10) == 0 {
			now = some(r, ticks)
		}
		past, up, down := pasts(r, now), behavior(r), behavior(r)
		there, toward := number(r), number(r)
		starts(t, past, now, span(r), there)
		for _, b := range []api.Behavior{up, down} {
			for _, way := range []bool{false, true} {
				if n, want := Limit(b, past, now, there, way), limited(b, past, now, there, way); n != want {
					t.Fatalf("Limit(%v, %v, %d, %d, %v): %d, want %d", b, past, now, there, way, n, want)
				}
			}
		}
		n := Go(up, down, past, now, there, toward)
		if want := gone(up, down, past, now, there, toward); n != want {
			t.Fatalf("Go(%v, %v, %v, %d, %d, %d): %d, want %d", up, down, past, now, there, toward, n, want)
		}
		if n != there && n != toward {
			moved++
		}
		if l := Keep(past, now); !slices.Equal(l, kept(past, now)) {
			t.Fatalf("Keep(%v, %d): %v", past, now, l)
		}
	}
	if moved < 1000 {
		t.Error("too few go a part of the way:", moved)
	}
}
