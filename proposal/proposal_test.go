package proposal

import (
	"math"
	"math/big"
	"math/rand"
	"reflect"
	"slices"
	"testing"

	"trimtab/api"
	"trimtab/query"
	"trimtab/scrape"
)

const most = api.Milli(api.MaxMilli)

var (
	// offValues are no quantities.
	offValues = []api.Milli{math.MinInt64, math.MinInt64 + 1, -most - 1, -most, -1000, -1, most + 1, most + 2, 2 * most, math.MaxInt64 - 1, math.MaxInt64}
	// offTargets are values that no metric has as its Target.
	offTargets = append([]api.Milli{0}, offValues...)
	// offReplicas and offTolerances can't be.
	offReplicas   = []int{math.MinInt, math.MinInt + 1, -api.MaxReplicas, -2, -1, api.MaxReplicas + 1, api.MaxReplicas + 2, 1 << 31, 1 << 32, math.MaxInt - 1, math.MaxInt}
	offTolerances = []int{math.MinInt, math.MinInt + 1, -1000, -2, -1, api.Mille + 1, api.Mille + 2, 1 << 32, 1<<32 + 1, math.MaxInt - 1, math.MaxInt}
	// offKinds are numbers of no kind of metrics.
	offKinds = []int{math.MinInt, -2, -1, 4, 5, 1 << 32, 1<<32 + 1, math.MaxInt}
)

// byAsk is a metric of a Resource, byPod one of Pods.
func byAsk(target api.Milli) api.Metric {
	return api.Metric{Kind: api.ByResource, Name: "cpu", Target: target}
}

func byPod(target api.Milli) api.Metric {
	return api.Metric{Kind: api.ByPods, Name: "rps", Target: target}
}

// has is a use of a ready pod, missing one of a ready pod that has none, unready
// one of a pod that isn't ready, though it uses something.
func has(ask, use api.Milli) query.Use {
	return query.Use{Pod: "h", Ready: true, Has: true, Ask: ask, Use: use}
}

func missing(ask api.Milli) query.Use { return query.Use{Pod: "m", Ready: true, Ask: ask} }

func unready(ask, use api.Milli) query.Use {
	return query.Use{Pod: "u", Has: true, Ask: ask, Use: use}
}

// row is a row of uses.
func row(l ...query.Use) []query.Use { return l }

// wantRow wants so many replicas of Row.
func wantRow(t *testing.T, m api.Metric, l []query.Use, replicas, tolerance, want int) {
	t.Helper()
	if n, e := Row(m, l, replicas, tolerance); n != want || e != api.OK {
		t.Errorf("Row(%v, %v, %d, %d): %d, %d, want %d", m, l, replicas, tolerance, n, e, want)
	}
}

// wantNoRow wants an error of Row, and nothing beside it.
func wantNoRow(t *testing.T, m api.Metric, l []query.Use, replicas, tolerance int, want api.Errno) {
	t.Helper()
	if n, e := Row(m, l, replicas, tolerance); n != 0 || e != want {
		t.Errorf("Row(%v, %v, %d, %d): %d, %d, want 0, %d", m, l, replicas, tolerance, n, e, want)
	}
}

// P20.1 Row

func TestRowOfTheChapter(t *testing.T) {
	wantRow(t, byAsk(500), row(has(1000, 900), has(1000, 900)), 2, 0, 4)
	wantRow(t, byAsk(500), row(has(1000, 900), has(1000, 900)), 2, 100, 4)
	wantRow(t, byAsk(500), row(has(1000, 900), has(1000, 900)), 3, 799, 4)
	wantRow(t, byAsk(500), row(has(1000, 900), has(1000, 900)), 3, 800, 3)
}

func TestRowHasGoalsByKind(t *testing.T) {
	l := row(has(1000, 900), has(3000, 900))
	wantRow(t, byAsk(500), l, 2, 0, 2)                     // U 1800, G 2000
	wantRow(t, byAsk(50), l, 2, 0, 18)                     // G 200
	wantRow(t, byPod(500), l, 2, 0, 4)                     // G 1000
	wantRow(t, byPod(50), l, 2, 0, 36)                     // G 100
	wantRow(t, byPod(50), row(has(0, 900)), 2, 0, 18)      // what it asks for counts for nothing
	wantRow(t, byPod(1), row(has(most, 9)), 2, 0, 9)       // nor if it is much
	wantRow(t, byAsk(1), row(has(most, most)), 2, 0, 1001) // a thousandth, rounded down
	for _, kind := range append([]int{api.ByObject, api.ByExternal}, offKinds...) {
		m := byPod(50)
		m.Kind = kind
		wantRow(t, m, l, 2, 0, 36)
		wantRow(t, m, row(has(0, 900)), 2, 0, 18)
	}
}

func TestRowRoundsEachGoalDown(t *testing.T) {
	wantRow(t, byAsk(1500), row(has(1, 10)), 1, 0, 10)                        // 1.5
	wantRow(t, byAsk(1999), row(has(1, 10)), 1, 0, 10)                        // 1.999
	wantRow(t, byAsk(2000), row(has(1, 10)), 1, 0, 5)                         // 2
	wantRow(t, byAsk(1500), row(has(1, 10), has(1, 10)), 1, 0, 20)            // 1 and 1
	wantRow(t, byAsk(999), row(has(1, 10), has(2, 10)), 1, 0, 40)             // 0 and 1
	wantRow(t, byAsk(999), row(has(2, 10), missing(1), missing(1)), 1, 0, 30) // 1, 0 and 0
	wantRow(t, byAsk(333), row(has(3, 0), has(4, 0)), 5, 0, 0)                // 0 and 1
}

func TestRowOfMore(t *testing.T) {
	m, h := byAsk(500), has(1000, 900)
	wantRow(t, m, row(h, h, missing(1000)), 1, 100, 4)                              // 3 * 1800 / 1500
	wantRow(t, m, row(h, h, unready(1000, 0)), 1, 100, 4)                           // likewise
	wantRow(t, m, row(h, h, unready(1000, 9000)), 1, 100, 4)                        // what it uses doesn't count
	wantRow(t, m, row(h, h, query.Use{Ask: 1000}), 1, 100, 4)                       // nor whether it has a use
	wantRow(t, m, row(unready(200, 1), h, missing(200), h), 1, 100, 6)              // 4 * 1800 / 1200
	wantRow(t, m, row(h, h, missing(0), unready(0, 0)), 1, 100, 8)                  // 4 * 1800 / 1000
	wantRow(t, byPod(500), row(h, h, missing(0)), 1, 100, 4)                        // 3 * 1800 / 1500
	wantRow(t, byPod(500), row(h, h, unready(9, 9)), 1, 100, 4)                     // likewise
	wantRow(t, byPod(300), row(h, h, missing(0), unready(0, 0)), 1, 100, 6)         // 4 * 1800 / 1200
	wantRow(t, byPod(300), row(h, h, missing(0), unready(0, 0), h), 1, 100, 9)      // 5 * 2700 / 1500
	wantRow(t, byPod(899), row(h, h, h, h, h, h, h, h, h, h), 1, 0, 11)             // 10 * 9000 / 8990
	wantRow(t, byPod(900), row(h, h, has(0, 901)), 1, 0, 4)                         // 3 * 2701 / 2700
	wantRow(t, byPod(900), row(h, h, has(0, 1800)), 1, 0, 4)                        // 3 * 3600 / 2700, a whole number
	wantRow(t, byPod(900), row(has(0, 1000), has(0, 0)), 1, 0, 1)                   // less: what one uses is for all
	wantRow(t, byPod(900), row(has(0, 1900), has(0, 0)), 1, 0, 3)                   // 2 * 1900 / 1800
	wantRow(t, byPod(900), row(has(0, 1900), missing(0), missing(0)), 1, 0, 1)      // no more above
	wantRow(t, byPod(900), row(has(0, 1900), has(0, 0), missing(0)), 2, 0, 2)       // no more above
	wantRow(t, byPod(1), row(has(0, 1), has(0, 1), has(0, 2), missing(0)), 7, 0, 7) // 4 of 4: near
}

func TestRowOfMoreHasAtLeastWhatThereIs(t *testing.T) {
	for replicas, want := range []int{4, 4, 4, 4, 4, 5, 6, 7} {
		wantRow(t, byAsk(500), row(has(1000, 900), has(1000, 900)), replicas, 100, want)
	}
	wantRow(t, byAsk(500), row(has(1000, 900), has(1000, 900)), api.MaxReplicas, 100, api.MaxReplicas)
}

func TestRowOfLess(t *testing.T) {
	m, h := byAsk(500), has(1000, 100)
	wantRow(t, m, row(h, h), 9, 100, 1)                                     // 2 * 200 / 1000
	wantRow(t, m, row(h, h, missing(1000)), 9, 100, 2)                      // 3 * 700 / 1500
	wantRow(t, m, row(h, h, missing(1000), missing(1000)), 9, 100, 3)       // 4 * 1200 / 2000
	wantRow(t, m, row(missing(4000), h, h, missing(1000)), 9, 100, 4)       // 4 * 2700 / 3500
	wantRow(t, m, row(h, h, unready(1000, 100)), 9, 100, 1)                 // it doesn't count
	wantRow(t, m, row(h, h, unready(1000, 9000)), 9, 100, 1)                // nor what it uses
	wantRow(t, m, row(h, h, query.Use{Ask: 1000}), 9, 100, 1)               // nor without a use
	wantRow(t, m, row(h, h, missing(1000), unready(9, 9)), 9, 100, 2)       // 3 * 700 / 1500
	wantRow(t, byPod(500), row(h, h, missing(0), missing(0)), 9, 0, 3)      // 4 * 1200 / 2000
	wantRow(t, byPod(500), row(h, h, unready(0, 0)), 9, 0, 1)               // 2 * 200 / 1000
	wantRow(t, byPod(100), row(h, h, h, has(0, 99)), 9, 0, 4)               // 4 * 399 / 400
	wantRow(t, byPod(100), row(h, h, h, has(0, 0)), 9, 0, 3)                // 4 * 300 / 400, a whole number
	wantRow(t, byPod(500), row(has(0, 0), has(0, 0)), 9, 0, 0)              // nothing at all
	wantRow(t, byPod(500), row(has(0, 0), missing(0), missing(0)), 9, 0, 2) // 3 * 1000 / 1500
}

func TestRowOfLessHasAtMostWhatThereIs(t *testing.T) {
	l := slices.Repeat(row(has(1000, 250)), 10)
	for replicas, want := range []int{0, 1, 2, 3, 4, 5, 5, 5} {
		wantRow(t, byAsk(500), l, replicas, 100, want)
	}
	wantRow(t, byAsk(500), l, api.MaxReplicas, 100, 5)
}

func TestRowOfAsMuch(t *testing.T) {
	for _, others := range [][]query.Use{
		nil, row(missing(1000)), row(unready(1000, 0)), row(unready(1000, 9000), missing(7), missing(9000)),
		row(missing(most), missing(most), unready(most, most)),
	} {
		l := append(row(has(1000, 400), has(1000, 600)), others...)
		for _, replicas := range []int{0, 1, 2, 9, api.MaxReplicas} {
			wantRow(t, byAsk(500), l, replicas, 0, replicas)
			wantRow(t, byPod(500), l, replicas, 0, replicas)
		}
	}
}

func TestRowIsNear(t *testing.T) {
	for _, c := range []struct {
		use             api.Milli
		tolerance, want int
	}{
		{1000, 0, 7}, {1001, 0, 11}, {999, 0, 7}, {900, 0, 7}, {600, 0, 6},
		{1100, 100, 7}, {1101, 100, 12}, {900, 100, 7}, {899, 100, 7}, {699, 301, 7}, {699, 300, 7}, {600, 400, 7}, {600, 399, 6}, {599, 400, 6},
		{1500, 500, 7}, {1501, 500, 16}, {500, 500, 7}, {499, 500, 5},
		{2000, 1000, 7}, {2001, 1000, 21}, {0, 1000, 7}, {0, 999, 0}, {1, 999, 7}, {1, 998, 1},
		{1001, 1, 7}, {1002, 1, 11}, {999, 1, 7}, {1000, 1000, 7}, {1999, 999, 7}, {2000, 999, 20},
	} {
		l := slices.Repeat(row(has(0, c.use/10)), 9)
		l = append(l, has(0, c.use-c.use/10*9))
		wantRow(t, byPod(100), l, 7, c.tolerance, c.want)
	}
}

func TestRowIsNearBehindTheOthers(t *testing.T) {
	h := has(0, 1300)
	wantRow(t, byPod(1000), row(h, h), 2, 200, 3)                              // 2 * 2600 / 2000
	wantRow(t, byPod(1000), row(h, h, h, missing(0)), 3, 0, 3)                 // 3900 of 4000: no more above
	wantRow(t, byPod(1000), row(h, h, h, h, missing(0)), 3, 39, 6)             // 5 * 5200 / 5000
	wantRow(t, byPod(1000), row(h, h, h, h, missing(0)), 3, 40, 3)             // 5200 of 5000: near
	wantRow(t, byPod(1000), row(h, h, h, h, unready(0, 9)), 3, 40, 3)          // likewise
	wantRow(t, byPod(1000), slices.Repeat(row(h, unready(0, 0)), 50), 3, 0, 3) // far below, but it was above
	low := has(0, 700)
	wantRow(t, byPod(1000), row(low, low), 9, 299, 2)                    // 2 * 1400 / 2000
	wantRow(t, byPod(1000), row(low, low), 9, 300, 9)                    // 1400 of 2000: near
	wantRow(t, byPod(1000), row(low, low, missing(0)), 2, 199, 2)        // 2400 of 3000
	wantRow(t, byPod(1000), row(low, low, missing(0)), 9, 199, 3)        // 3 * 2400 / 3000, rounded up
	wantRow(t, byPod(1000), row(low, low, missing(0)), 9, 200, 9)        // near
	wantRow(t, byPod(1000), row(low, low, unready(0, 0)), 9, 299, 2)     // it doesn't bring it near
	wantRow(t, byAsk(1000), row(has(1000, 0), missing(1000)), 9, 499, 1) // 2 * 1000 / 2000
	wantRow(t, byAsk(1000), row(has(1000, 0), missing(1000)), 9, 500, 9) // near
}

func TestRowHasAtMostMaxReplicas(t *testing.T) {
	for _, replicas := range []int{0, 1, api.MaxReplicas - 1, api.MaxReplicas} {
		wantRow(t, byPod(1), row(has(0, api.MaxReplicas)), replicas, 0, api.MaxReplicas)
		wantRow(t, byPod(1), row(has(0, api.MaxReplicas+1)), replicas, 0, api.MaxReplicas)
		wantRow(t, byPod(1), row(has(0, 1<<32)), replicas, 0, api.MaxReplicas)
		wantRow(t, byPod(1), row(has(0, 1<<32+5)), replicas, 0, api.MaxReplicas)
		wantRow(t, byPod(1), row(has(0, most)), replicas, 0, api.MaxReplicas)
	}
	wantRow(t, byPod(1), row(has(0, api.MaxReplicas-1)), 0, 0, api.MaxReplicas-1)
}

// TestRowOfProductsBeyond64Bits has as many pods as make N times U 2^64, and more.
func TestRowOfProductsBeyond64Bits(t *testing.T) {
	for _, n := range []int{2047, 2048, 2049, 4096} {
		l := append(slices.Repeat(row(has(0, 0)), n-1), has(1, most))
		wantRow(t, byAsk(1000), l, 3, 0, api.MaxReplicas)
		l[0].Ask = most - 1
		wantRow(t, byAsk(1000), l, 3, 0, 3) // as many as there are: all is used
		l[0].Ask = most / 2
		wantRow(t, byAsk(1000), l, 3, 0, 2*n)
	}
}

func TestRowOfMorePodsThanMaxReplicas(t *testing.T) {
	l := slices.Repeat(row(has(0, 1)), api.MaxReplicas+1)
	if n, e := Row(byPod(2), l, api.MaxReplicas, 0); n != api.MaxReplicas/2+1 || e != api.OK {
		t.Error(n, e)
	}
	if n, e := Row(byPod(1), append(l, has(0, 2)), 3, 0); n != api.MaxReplicas || e != api.OK {
		t.Error(n, e)
	}
}

// P20.1 Row's errors

func TestRowOfWrongArguments(t *testing.T) {
	for _, l := range [][]query.Use{
		row(has(1000, 900)), nil, row(missing(1)), row(has(most, most), has(most, most)), row(has(0, 5)),
		row(has(1000, 900), missing(most), missing(most)),
	} {
		for _, m := range []api.Metric{byAsk(1000), byPod(1000)} {
			for _, replicas := range offReplicas {
				wantNoRow(t, m, l, replicas, 100, api.ErrArg)
			}
			for _, tolerance := range offTolerances {
				wantNoRow(t, m, l, 2, tolerance, api.ErrArg)
			}
			for _, m.Target = range offTargets {
				wantNoRow(t, m, l, 2, 100, api.ErrArg)
			}
		}
	}
}

func TestRowOfWrongQuantities(t *testing.T) {
	good := []query.Use{has(1000, 900), missing(1000), unready(1000, 900), {Ask: 1000}}
	for _, off := range offValues {
		for i := range good {
			for _, alone := range []bool{false, true} {
				asks, uses := slices.Clone(good), slices.Clone(good)
				asks[i].Ask, uses[i].Use = off, off
				if alone {
					asks, uses = asks[i:i+1], uses[i:i+1]
				}
				for _, m := range []api.Metric{byAsk(500), byPod(500), byAsk(most), byPod(most), byAsk(1)} {
					wantNoRow(t, m, asks, 3, 100, api.ErrArg)
					wantNoRow(t, m, uses, 3, 100, api.ErrArg)
				}
			}
		}
	}
}

func TestRowAtTheEndsOfArguments(t *testing.T) {
	for _, tolerance := range []int{0, 1, api.Mille - 1, api.Mille} {
		for _, replicas := range []int{0, 1, api.MaxReplicas - 1, api.MaxReplicas} {
			for _, target := range []api.Milli{1, 2, most - 1, most} {
				wantRow(t, byPod(target), row(has(0, target), missing(most), unready(most, most)), replicas, tolerance, replicas)
			}
		}
	}
}

func TestRowOfNone(t *testing.T) {
	for _, l := range [][]query.Use{
		nil, {}, row(missing(1000)), row(unready(1000, 900)), row(query.Use{}),
		row(missing(most), missing(most), unready(most, most), unready(0, 0)),
	} {
		for _, replicas := range []int{0, 3, api.MaxReplicas} {
			wantNoRow(t, byAsk(500), l, replicas, 0, api.ErrNone)
			wantNoRow(t, byAsk(most), l, replicas, 1000, api.ErrNone)
			wantNoRow(t, byPod(most), l, replicas, 1000, api.ErrNone)
		}
	}
}

func TestRowOfTooMuchUse(t *testing.T) {
	for _, m := range []api.Metric{byAsk(500), byPod(500), byAsk(most), byPod(most)} {
		wantNoRow(t, m, row(has(2, most), has(2, 1)), 3, 1000, api.ErrRange)
		wantNoRow(t, m, row(has(2, 1), has(2, most)), 3, 1000, api.ErrRange)
		wantNoRow(t, m, row(has(0, most), has(0, most)), 3, 1000, api.ErrRange) // ahead of ErrZero
		wantNoRow(t, m, slices.Repeat(row(has(0, most)), 2048), 3, 0, api.ErrRange)
		wantNoRow(t, m, slices.Repeat(row(has(0, most)), 2049), 3, 0, api.ErrRange)
	}
	wantRow(t, byAsk(500), row(has(2, most-1), has(2, 1)), 3, 0, api.MaxReplicas)
	wantRow(t, byAsk(500), row(has(2, most), has(2, 0), unready(2, most), unready(2, most)), 3, 0, api.MaxReplicas)
}

func TestRowOfTooGreatGoals(t *testing.T) {
	wantRow(t, byAsk(1000), row(has(most, 0)), 3, 0, 0)
	wantNoRow(t, byAsk(1001), row(has(most, 0)), 3, 0, api.ErrRange)
	wantNoRow(t, byAsk(1000), row(has(most, 0), has(1, 0)), 3, 0, api.ErrRange)
	wantNoRow(t, byAsk(1000), row(has(1, 0), has(most, 0)), 3, 0, api.ErrRange)
	wantRow(t, byAsk(1000), row(has(most-1, 0), has(1, 0)), 3, 0, 0)
	wantRow(t, byAsk(most), row(has(1000, 0)), 3, 0, 0)
	wantNoRow(t, byAsk(most), row(has(1001, 0)), 3, 0, api.ErrRange)
	wantNoRow(t, byAsk(most), row(has(most, most)), 3, 1000, api.ErrRange)
	wantNoRow(t, byAsk(most), slices.Repeat(row(has(most, 0)), 1000), 3, 1000, api.ErrRange)
	wantRow(t, byPod(most), row(has(0, 0)), 3, 0, 0)
	wantNoRow(t, byPod(most), row(has(0, 0), has(0, 0)), 3, 0, api.ErrRange)
	wantRow(t, byPod(most/2), row(has(0, 0), has(0, 0)), 3, 0, 0)
	wantNoRow(t, byPod(most/2+1), row(has(0, 0), has(0, 0)), 3, 0, api.ErrRange)
	wantNoRow(t, byPod(most/2), row(has(0, 0), has(0, 0), has(0, 0)), 3, 0, api.ErrRange)
	wantNoRow(t, byPod(most), slices.Repeat(row(has(0, 0)), 2048), 3, 0, api.ErrRange)
	wantNoRow(t, byPod(most), slices.Repeat(row(has(0, 0)), 2049), 3, 0, api.ErrRange)
	// 2^72 and 2^64 times a thousandth: what goes round would be right.
	wantNoRow(t, byAsk(1<<36), row(has(1<<36, 0)), 3, 0, api.ErrRange)
	wantNoRow(t, byAsk(1<<32), row(has(1<<32, 0)), 3, 0, api.ErrRange)
	wantNoRow(t, byAsk(1<<53), row(has(1<<21, 0)), 3, 0, api.ErrRange)
}

func TestRowOfManyAsks(t *testing.T) {
	// What they ask for may be more than MaxMilli together, if their goals aren't.
	l := slices.Repeat(row(has(most, most/8)), 4)
	wantRow(t, byAsk(250), l, 3, 0, 2)
	wantRow(t, byPod(most/4), l, 3, 0, 2)
	wantNoRow(t, byAsk(251), l, 3, 0, api.ErrRange)
}

func TestRowOfGoalsOfZero(t *testing.T) {
	wantNoRow(t, byAsk(500), row(has(0, 0)), 3, 0, api.ErrZero)
	wantNoRow(t, byAsk(500), row(has(0, 900), has(1, 900)), 3, 0, api.ErrZero)
	wantNoRow(t, byAsk(999), row(has(1, most)), 3, 1000, api.ErrZero)
	wantNoRow(t, byAsk(most), row(has(0, most)), 0, 1000, api.ErrZero)
	wantNoRow(t, byAsk(1), row(has(999, 5), missing(most), unready(most, most)), 3, 0, api.ErrZero)
	// Ahead of goals that would be too great.
	wantNoRow(t, byAsk(1000), row(has(0, 5), missing(most), missing(most)), 3, 0, api.ErrZero)
	wantNoRow(t, byAsk(1000), row(has(0, 0), missing(most), missing(most)), 3, 0, api.ErrZero)
	wantNoRow(t, byAsk(most), row(has(0, 0), unready(most, most)), 3, 0, api.ErrZero)
	wantRow(t, byAsk(500), row(has(2, 1)), 3, 0, 3)
}

func TestRowOfTooGreatGoalsOfOthers(t *testing.T) {
	more, less := has(1, 9), has(9, 1)
	// Of more all others count.
	wantRow(t, byAsk(1000), row(more, missing(most-1)), 3, 0, 3)
	wantNoRow(t, byAsk(1000), row(more, missing(most)), 3, 0, api.ErrRange)
	wantRow(t, byAsk(1000), row(more, unready(most-1, 0)), 3, 0, 3)
	wantNoRow(t, byAsk(1000), row(more, unready(most, 0)), 3, 0, api.ErrRange)
	wantNoRow(t, byAsk(1000), row(more, unready(most-1, 0), missing(1)), 3, 0, api.ErrRange)
	wantNoRow(t, byAsk(1000), row(more, unready(most, 0), missing(most)), 3, 0, api.ErrRange)
	wantNoRow(t, byAsk(2000), row(more, unready(most, 0)), 3, 0, api.ErrRange)
	wantNoRow(t, byAsk(2000), row(more, missing(most)), 3, 0, api.ErrRange)
	// Of less those that are ready.
	wantRow(t, byAsk(1000), row(less, missing(most-9)), 3, 0, 2)
	wantNoRow(t, byAsk(1000), row(less, missing(most-8)), 3, 0, api.ErrRange)
	wantNoRow(t, byAsk(1000), row(less, missing(most)), 3, 0, api.ErrRange)
	wantNoRow(t, byAsk(1000), row(less, missing(most), missing(most)), 3, 0, api.ErrRange)
	wantNoRow(t, byAsk(2000), row(less, missing(most)), 3, 1000, api.ErrRange)
	wantNoRow(t, byAsk(1000), slices.Repeat(row(less, missing(most)), 2049), 3, 1000, api.ErrRange)
	wantRow(t, byAsk(1000), row(less, unready(most, most), unready(most, most)), 3, 0, 1)
	wantRow(t, byAsk(3000), row(less, unready(most, most)), 3, 0, 1)
	// Of as much none.
	wantRow(t, byAsk(1000), row(has(9, 9), missing(most), unready(most, most)), 3, 0, 3)
	wantRow(t, byAsk(most), row(has(1000, most), missing(most), unready(most, most)), 3, 0, 3)
}

// slowNear is chapter 3's near, by great numbers.
func slowNear(use, goal *big.Int, tolerance int) bool {
	apart := new(big.Int).Sub(use, goal)
	apart.Abs(apart).Mul(apart, big.NewInt(1000))
	return apart.Cmp(new(big.Int).Mul(goal, big.NewInt(int64(tolerance)))) <= 0
}

// slowUp is n times a, divided by b, rounded up, at most MaxReplicas.
func slowUp(n int, a, b *big.Int) int {
	quotient, rest := new(big.Int).QuoRem(new(big.Int).Mul(big.NewInt(int64(n)), a), b, new(big.Int))
	if rest.Sign() > 0 {
		quotient.Add(quotient, big.NewInt(1))
	}
	if quotient.Cmp(big.NewInt(api.MaxReplicas)) > 0 {
		return api.MaxReplicas
	}
	return int(quotient.Int64())
}

// slowWrong is whether what all calls are handed in can't be.
func slowWrong(target api.Milli, replicas, tolerance int, values ...api.Milli) bool {
	bad := target == 0 || replicas < 0 || replicas > 1000000 || tolerance < 0 || tolerance > 1000
	for _, v := range append(values, target) {
		bad = bad || v < 0 || v > 1<<53
	}
	return bad
}

// slowRow is the chapter's words on a row, step by step, by great numbers, and
// which way it went.
func slowRow(m api.Metric, l []query.Use, replicas, tolerance int) (int, api.Errno, string) {
	var values []api.Milli
	for _, u := range l {
		values = append(values, u.Ask, u.Use)
	}
	if slowWrong(m.Target, replicas, tolerance, values...) {
		return 0, api.ErrArg, "arg"
	}
	sum := func(counts func(query.Use) bool) (use, goal *big.Int, n int) {
		use, goal = new(big.Int), new(big.Int)
		for _, u := range l {
			if !counts(u) {
				continue
			}
			one := big.NewInt(int64(m.Target))
			if m.Kind == api.ByResource {
				one.Mul(one, big.NewInt(int64(u.Ask))).Quo(one, big.NewInt(1000))
			}
			use.Add(use, big.NewInt(int64(u.Use)))
			goal.Add(goal, one)
			n++
		}
		return use, goal, n
	}
	far := func(x *big.Int) bool { return x.Cmp(big.NewInt(1<<53)) > 0 }
	use, goal, n := sum(func(u query.Use) bool { return u.Ready && u.Has })
	if n == 0 {
		return 0, api.ErrNone, "none"
	}
	if far(use) || far(goal) {
		return 0, api.ErrRange, "range 1"
	}
	if goal.Sign() == 0 {
		return 0, api.ErrZero, "zero"
	}
	was := use.Cmp(goal)
	if was > 0 {
		_, more, k := sum(func(u query.Use) bool { return !u.Ready || !u.Has })
		goal.Add(goal, more)
		n += k
	}
	if was < 0 {
		_, more, k := sum(func(u query.Use) bool { return u.Ready && !u.Has })
		use.Add(use, more)
		goal.Add(goal, more)
		n += k
	}
	if far(use) || far(goal) {
		return 0, api.ErrRange, "range 2"
	}
	if slowNear(use, goal, tolerance) {
		return replicas, api.OK, "near"
	}
	if use.Cmp(goal) != was {
		return replicas, api.OK, "turned"
	}
	need := slowUp(n, use, goal)
	switch {
	case was > 0 && need > replicas:
		return need, api.OK, "up"
	case was < 0 && need < replicas:
		return need, api.OK, "down"
	}
	return replicas, api.OK, "no way"
}

// chanceMilli is a quantity at most so great, or sometimes at an end.
func chanceMilli(r *rand.Rand, top int64) api.Milli {
	switch r.Intn(12) {
	case 0:
		return 0
	case 1:
		return api.Milli(top)
	}
	return api.Milli(r.Int63n(top + 1))
}

// chanceUses is a row of uses about so great.
func chanceUses(r *rand.Rand, ask, use int64) []query.Use {
	var l []query.Use
	for range r.Intn(7) {
		u := query.Use{Ready: r.Intn(4) > 0, Has: r.Intn(4) > 0, Ask: chanceMilli(r, ask)}
		if u.Has || r.Intn(5) == 0 {
			u.Use = chanceMilli(r, use)
		}
		l = append(l, u)
	}
	return l
}

// chanceMetric is one of any kind.
func chanceMetric(r *rand.Rand, top int64) api.Metric {
	return api.Metric{Kind: r.Intn(6) - 1, Name: "cpu", Target: max(1, chanceMilli(r, top))}
}

// chanceReplicas are about as many as a row has, or at the ends.
func chanceReplicas(r *rand.Rand) int {
	switch r.Intn(12) {
	case 0:
		return api.MaxReplicas
	case 1:
		return r.Intn(api.MaxReplicas + 1)
	}
	return r.Intn(12)
}

func TestRowIsAsTheChapterTells(t *testing.T) {
	r := rand.New(rand.NewSource(20))
	ways := map[string]int{}
	scales := []int64{3, 20, 1000, 5000, 1 << 32, 1 << 51, 1 << 53}
	for range 200000 {
		scale := scales[r.Intn(len(scales))]
		m := chanceMetric(r, scale)
		ask, use := scale, scale
		if m.Kind == api.ByResource {
			m.Target = max(1, chanceMilli(r, 3000))
			use = min(use*2, 1<<53)
		}
		l := chanceUses(r, ask, use)
		replicas, tolerance := chanceReplicas(r), r.Intn(1001)/(1+r.Intn(10))
		switch r.Intn(100) {
		case 0:
			replicas = offReplicas[r.Intn(len(offReplicas))]
		case 1:
			tolerance = offTolerances[r.Intn(len(offTolerances))]
		case 2:
			m.Target = offTargets[r.Intn(len(offTargets))]
		case 3:
			if len(l) > 0 {
				l[r.Intn(len(l))].Use = offValues[r.Intn(len(offValues))]
			}
		}
		want, wrong, way := slowRow(m, l, replicas, tolerance)
		ways[way]++
		if got, e := Row(m, l, replicas, tolerance); got != want || e != wrong {
			t.Fatalf("Row(%v, %v, %d, %d): %d, %d, want %d, %d (%s)", m, l, replicas, tolerance, got, e, want, wrong, way)
		}
	}
	for _, way := range []string{"arg", "none", "range 1", "zero", "range 2", "near", "turned", "up", "down", "no way"} {
		if ways[way] < 100 {
			t.Errorf("%q came %d times only", way, ways[way])
		}
	}
}

func TestRowInAnyOrder(t *testing.T) {
	r := rand.New(rand.NewSource(21))
	for range 3000 {
		m, l, replicas, tolerance := chanceMetric(r, 1000), chanceUses(r, 2000, 2000), r.Intn(9), r.Intn(300)
		want, wrong := Row(m, l, replicas, tolerance)
		r.Shuffle(len(l), func(i, j int) { l[i], l[j] = l[j], l[i] })
		for i := range l {
			l[i].Pod = string(rune('a' + r.Intn(3)))
		}
		m.Name = "other"
		if got, e := Row(m, l, replicas, tolerance); got != want || e != wrong {
			t.Fatalf("shuffled Row(%v, %v, %d, %d): %d, %d, want %d, %d", m, l, replicas, tolerance, got, e, want, wrong)
		}
	}
}

// P20.1 One

// values are quantities at which proposals change their ways.
var values = []api.Milli{0, 1, 2, 3, 449, 450, 499, 500, 501, 550, 551, 999, 1000, 1001, 1100, 1101, 1 << 31, 1 << 32, 1<<32 + 1, most / 1000, most / 2, most/2 + 1, most - 1, most}

// call is One or Average.
type call func(api.Metric, api.Milli, int, int) (int, api.Errno)

// valued is what a value for a target asks for.
type valued struct {
	target, value             api.Milli
	replicas, tolerance, want int
}

// wantOfKinds wants the same of all kinds of metrics, and of numbers of none.
func wantOfKinds(t *testing.T, name string, of call, l []valued) {
	t.Helper()
	for _, c := range l {
		for _, kind := range append([]int{api.ByResource, api.ByPods, api.ByObject, api.ByExternal}, offKinds...) {
			m := api.Metric{Kind: kind, Name: "queue", Target: c.target}
			if n, e := of(m, c.value, c.replicas, c.tolerance); n != c.want || e != api.OK {
				t.Errorf("%s of %d for %d at %d by %d: %d, %d, want %d", name, c.value, c.target, c.replicas, c.tolerance, n, e, c.want)
			}
		}
	}
}

func TestOneTable(t *testing.T) {
	wantOfKinds(t, "One", One, []valued{
		{500, 1100, 2, 100, 5},
		{500, 500, 7, 0, 7},
		{500, 501, 7, 0, 8},
		{500, 499, 7, 0, 7},
		{500, 428, 7, 0, 6},
		{500, 429, 7, 0, 7},
		{500, 550, 10, 100, 10},
		{500, 551, 10, 100, 12},
		{500, 450, 10, 100, 10},
		{500, 449, 10, 100, 9},
		{500, 0, 10, 999, 0},
		{500, 0, 10, 1000, 10},
		{500, 1000, 10, 1000, 10},
		{500, 1001, 10, 1000, 21},
		{500, 9000, 0, 100, 0},
		{500, 0, 0, 100, 0},
		{1, most, 1, 0, api.MaxReplicas},
		{1, most, api.MaxReplicas, 0, api.MaxReplicas},
		{1, api.MaxReplicas - 1, 1, 0, api.MaxReplicas - 1},
		{1, api.MaxReplicas + 1, 1, 0, api.MaxReplicas},
		{most, most, api.MaxReplicas, 0, api.MaxReplicas},
		{most, most - 1, api.MaxReplicas, 0, api.MaxReplicas},
		{most, 1, api.MaxReplicas, 0, 1},
		{most, most / 2, api.MaxReplicas, 0, api.MaxReplicas / 2},
	})
}

// slowOne is the chapter's words on one value.
func slowOne(m api.Metric, value api.Milli, replicas, tolerance int) (int, api.Errno) {
	if slowWrong(m.Target, replicas, tolerance, value) {
		return 0, api.ErrArg
	}
	use, goal := big.NewInt(int64(value)), big.NewInt(int64(m.Target))
	if slowNear(use, goal, tolerance) {
		return replicas, api.OK
	}
	return slowUp(replicas, use, goal), api.OK
}

// slowAverage is the chapter's words on a value on the average.
func slowAverage(m api.Metric, value api.Milli, replicas, tolerance int) (int, api.Errno) {
	if slowWrong(m.Target, replicas, tolerance, value) {
		return 0, api.ErrArg
	}
	use, target := big.NewInt(int64(value)), big.NewInt(int64(m.Target))
	goal := new(big.Int).Mul(target, big.NewInt(int64(replicas)))
	if goal.Cmp(big.NewInt(1<<53)) > 0 {
		goal.SetInt64(1 << 53)
	}
	if slowNear(use, goal, tolerance) {
		return replicas, api.OK
	}
	return slowUp(1, use, target), api.OK
}

// wantAsSlow holds a call against the chapter's words, at ends and by chance.
func wantAsSlow(t *testing.T, name string, of, slow call) {
	t.Helper()
	held := func(target, value api.Milli, replicas, tolerance int) {
		m := api.Metric{Kind: api.ByExternal, Name: "queue", Target: target}
		want, wrong := slow(m, value, replicas, tolerance)
		if got, e := of(m, value, replicas, tolerance); got != want || e != wrong {
			t.Fatalf("%s(%v, %d, %d, %d): %d, %d, want %d, %d", name, m, value, replicas, tolerance, got, e, want, wrong)
		}
	}
	replicas := append([]int{0, 1, 2, 3, 1000, api.MaxReplicas - 1, api.MaxReplicas}, offReplicas...)
	tolerances := append([]int{0, 1, 100, 999, 1000}, offTolerances...)
	for _, target := range slices.Concat(values, offTargets) {
		for _, value := range slices.Concat(values, offValues) {
			for _, n := range replicas {
				for _, tolerance := range tolerances {
					held(target, value, n, tolerance)
				}
			}
		}
	}
	r := rand.New(rand.NewSource(22))
	for range 100000 {
		target := max(1, chanceMilli(r, 1<<r.Intn(54)))
		n := chanceReplicas(r)
		value := chanceMilli(r, 1<<r.Intn(54))
		if r.Intn(2) == 0 {
			value = min(target, most/20)*api.Milli(r.Intn(12)) + chanceMilli(r, int64(target)/8+1)
		}
		held(target, min(value, most), n, r.Intn(1001)/(1+r.Intn(10)))
	}
}

func TestOneIsAsTheChapterTells(t *testing.T) { wantAsSlow(t, "One", One, slowOne) }

// P20.1 Average

func TestAverageTable(t *testing.T) {
	wantOfKinds(t, "Average", Average, []valued{
		{500, 2100, 4, 100, 4},
		{500, 2200, 4, 100, 4},
		{500, 2201, 4, 100, 5},
		{500, 1800, 4, 100, 4},
		{500, 1799, 4, 100, 4},
		{500, 1500, 4, 100, 3},
		{500, 1501, 4, 100, 4},
		{500, 2000, 4, 0, 4},
		{500, 2001, 4, 0, 5},
		{500, 0, 4, 999, 0},
		{500, 0, 4, 1000, 4},
		{500, 1, 4, 999, 1},
		{500, 2, 4, 999, 4},
		{500, 4000, 4, 1000, 4},
		{500, 4001, 4, 1000, 9},
		{500, 0, 0, 0, 0},
		{500, 0, 0, 1000, 0},
		{500, 1, 0, 1000, 1},
		{500, 501, 0, 0, 2},
		{1, most, 1, 0, api.MaxReplicas},
		{1, api.MaxReplicas, 0, 0, api.MaxReplicas},
		{1, api.MaxReplicas + 1, 0, 0, api.MaxReplicas},
		{1, api.MaxReplicas - 1, 0, 0, api.MaxReplicas - 1},
		// Goals beyond MaxMilli count as MaxMilli.
		{most, most, 1, 0, 1},
		{most, most, 2, 0, 2},
		{most, most, api.MaxReplicas, 0, api.MaxReplicas},
		{most, most - 1, 2, 0, 1},
		{most, most - 1, 2, 1, 2},
		{most, 1, api.MaxReplicas, 999, 1},
		{most, 1, api.MaxReplicas, 1000, api.MaxReplicas},
		{most/2 + 1, most, 2, 0, 2},
		{most / 2, most, 2, 0, 2},
		{most / 2, most, 3, 0, 3},
		{most / 2, most - 1, 3, 0, 2},
		{1 << 44, 1 << 40, api.MaxReplicas, 999, 1},
		{1 << 44, most, api.MaxReplicas, 0, api.MaxReplicas},
	})
}

func TestAverageIsAsTheChapterTells(t *testing.T) { wantAsSlow(t, "Average", Average, slowAverage) }

// P20.2 Of

// scraped brings a book a sample of so many wholes.
func scraped(t *testing.T, b *scrape.Book, at int64, subject, metric string, wholes float64) {
	t.Helper()
	if _, e := b.Scrape(at, scrape.Series{Subject: subject, Metric: metric}, math.Float64bits(wholes)); e != api.OK {
		t.Fatalf("Scrape(%d, %q, %q, %v): %d", at, subject, metric, wholes, e)
	}
}

// book has, at 5, uses of three pods, and of two things.
func book(t *testing.T) *scrape.Book {
	t.Helper()
	b, e := scrape.New(scrape.Rules{Most: 4, Age: 10})
	if e != api.OK {
		t.Fatal(e)
	}
	for i, subject := range []string{"a", "b", "c", "web", "external"} {
		for j, metric := range []string{"cpu", "mem", "rps"} {
			scraped(t, b, 5, subject, metric, float64(1+i+10*j))
		}
	}
	return b
}

// pod is an object of a pod that asks for CPU 1000 and Mem 2000.
func pod(name string, phase int) api.Object {
	return api.Object{Kind: api.KindPod, Name: name, Pod: api.Pod{Phase: phase, Ask: api.Resources{CPU: 1000, Mem: 2000}}}
}

// wantOf wants so many replicas of Of at a tick, of target "web", 3 replicas and
// tolerance 100.
func wantOf(t *testing.T, b *scrape.Book, m api.Metric, now int64, pods []api.Object, want int) {
	t.Helper()
	if n, e := Of(b, m, now, "web", pods, 3, 100); n != want || e != api.OK {
		t.Errorf("Of %v at %d: %d, %d, want %d", m, now, n, e, want)
	}
}

// wantNoOf wants an error of it, and nothing beside it.
func wantNoOf(t *testing.T, b *scrape.Book, m api.Metric, now int64, target string, pods []api.Object, replicas, tolerance int, want api.Errno) {
	t.Helper()
	if n, e := Of(b, m, now, target, pods, replicas, tolerance); n != 0 || e != want {
		t.Errorf("Of %v at %d, %q, %d, %d: %d, %d, want 0, %d", m, now, target, replicas, tolerance, n, e, want)
	}
}

func TestOfKinds(t *testing.T) {
	b := book(t)
	pods := []api.Object{pod("b", api.Ready), pod("a", api.Ready)}
	for _, c := range []struct {
		kind   int
		name   string
		target api.Milli
		want   int
	}{
		{api.ByResource, "cpu", 500, 6},   // 2 * 3000 / 1000
		{api.ByResource, "mem", 2300, 5},  // 2 * 23000 / 9200
		{api.ByPods, "cpu", 500, 6},       // 2 * 3000 / 1000
		{api.ByPods, "rps", 5000, 9},      // 2 * 43000 / 10000
		{api.ByObject, "cpu", 1000, 12},   // 3 * 4000 / 1000
		{api.ByObject, "rps", 20000, 4},   // 3 * 24000 / 20000
		{api.ByExternal, "cpu", 1000, 5},  // 5000 / 1000
		{api.ByExternal, "mem", 14000, 2}, // 15000 / 14000
		{api.ByExternal, "rps", 8000, 3},  // 25000 is near 24000
		{api.ByExternal, "rps", 8400, 3},  // 25000 is near 25200
		{api.ByObject, "mem", 13000, 3},   // 14000 is near 13000
		{api.ByPods, "mem", 23000, 1},     // 2 * 23000 / 46000
		{api.ByResource, "mem", 5500, 3},  // 23000 is near 22000
	} {
		wantOf(t, b, api.Metric{Kind: c.kind, Name: c.name, Target: c.target}, 7, pods, c.want)
	}
}

func TestOfNoKind(t *testing.T) {
	b := book(t)
	for _, kind := range offKinds {
		for _, target := range []api.Milli{0, 1, 500, -1} {
			m := api.Metric{Kind: kind, Name: "cpu", Target: target}
			wantNoOf(t, b, m, 7, "web", []api.Object{pod("a", api.Ready)}, 3, 100, api.ErrKind)
			wantNoOf(t, nil, m, -1, "", nil, -1, -1, api.ErrKind)
		}
	}
}

func TestOfPodsByPhases(t *testing.T) {
	b := book(t)
	scraped(t, b, 5, "f", "cpu", 90)
	scraped(t, b, 5, "u", "cpu", 90)
	m := byAsk(500)
	a := pod("a", api.Ready)
	wantOf(t, b, m, 7, []api.Object{a}, 3)                                                             // 1 * 1000 / 500
	wantOf(t, b, m, 7, []api.Object{a, pod("b", api.Ready), pod("c", api.Ready)}, 12)                  // 3 * 6000 / 1500
	wantOf(t, b, m, 7, []api.Object{a, pod("b", api.Ready), pod("u", api.Bound)}, 6)                   // 3 * 3000 / 1500
	wantOf(t, b, m, 7, []api.Object{a, pod("b", api.Ready), pod("u", api.Pending)}, 6)                 // 3 * 3000 / 1500
	wantOf(t, b, m, 7, []api.Object{a, pod("b", api.Ready), pod("f", api.Failed)}, 6)                  // 2 * 3000 / 1000
	wantOf(t, b, m, 7, []api.Object{pod("c", api.Ready), pod("none", api.Ready)}, 6)                   // 2 * 3000 / 1000
	wantOf(t, b, byAsk(9000), 7, []api.Object{a, pod("f", api.Failed)}, 1)                             // 1 * 1000 / 9000
	wantOf(t, b, byAsk(9000), 7, []api.Object{a, pod("none", api.Ready)}, 2)                           // 2 * 10000 / 18000
	wantOf(t, b, byAsk(9000), 7, []api.Object{a, pod("u", api.Bound)}, 1)                              // 1 * 1000 / 9000
	wantOf(t, b, byAsk(500), 7, []api.Object{{Kind: api.KindNode, Name: "b"}, pod("c", api.Ready)}, 6) // 1 * 3000 / 500
}

func TestOfPodsOfAllOwners(t *testing.T) {
	l := []api.Object{pod("a", api.Ready), pod("b", api.Ready)}
	l[0].Pod.Owner, l[1].Pod.Owner = "web", "other"
	wantOf(t, book(t), byAsk(500), 7, l, 6)
}

func TestOfAsksByMetric(t *testing.T) {
	b := book(t)
	pods := []api.Object{pod("a", api.Ready)}
	wantNoOf(t, b, api.Metric{Kind: api.ByResource, Name: "rps", Target: 500}, 7, "web", pods, 3, 100, api.ErrZero)
	wantOf(t, b, api.Metric{Kind: api.ByPods, Name: "rps", Target: 500}, 7, pods, 42)
	pods[0].Pod.Ask.CPU = -1
	wantNoOf(t, b, byAsk(500), 7, "web", pods, 3, 100, api.ErrArg)
	wantNoOf(t, b, api.Metric{Kind: api.ByPods, Name: "cpu", Target: 500}, 7, "web", pods, 3, 100, api.ErrArg)
	wantOf(t, b, api.Metric{Kind: api.ByResource, Name: "mem", Target: 500}, 7, pods, 11)
	wantOf(t, b, api.Metric{Kind: api.ByObject, Name: "cpu", Target: 500}, 7, pods, 24)
	pods[0].Pod.Ask.CPU = most
	wantNoOf(t, b, byAsk(1001), 7, "web", pods, 3, 100, api.ErrRange)
}

// TestOfTargets asks of things by the target's name, and of what is outside by
// "external" alone.
func TestOfTargets(t *testing.T) {
	b := book(t)
	for target, want := range map[string]int{"a": 1, "b": 2, "c": 3, "web": 4, "external": 5} {
		thing := api.Metric{Kind: api.ByObject, Name: "cpu", Target: 1000}
		if n, e := Of(b, thing, 7, target, nil, 1, 0); n != want || e != api.OK {
			t.Errorf("of %q: %d, %d, want %d", target, n, e, want)
		}
	}
	for _, target := range []string{"", "a", "web", "external", "none"} {
		outside := api.Metric{Kind: api.ByExternal, Name: "cpu", Target: 1000}
		if n, e := Of(b, outside, 7, target, nil, 1, 0); n != 5 || e != api.OK {
			t.Errorf("outside, with %q: %d, %d, want 5", target, n, e)
		}
	}
	for _, target := range []string{"", "none", "we", "webb", "Web", "cpu", "extern"} {
		wantNoOf(t, b, api.Metric{Kind: api.ByObject, Name: "cpu", Target: 1000}, 7, target, nil, 1, 0, api.ErrNone)
	}
	for _, kind := range []int{api.ByObject, api.ByExternal} {
		for _, name := range []string{"", "none", "cp", "cpus", "CPU", "web"} {
			wantNoOf(t, b, api.Metric{Kind: kind, Name: name, Target: 1000}, 7, "web", nil, 1, 0, api.ErrNone)
		}
	}
}

func TestOfTicks(t *testing.T) {
	b := book(t)
	scraped(t, b, 9, "web", "cpu", 8)
	scraped(t, b, 9, "external", "cpu", 8)
	scraped(t, b, 9, "a", "cpu", 8)
	pods := []api.Object{pod("a", api.Ready)}
	for _, kind := range []int{api.ByResource, api.ByPods, api.ByObject, api.ByExternal} {
		m := api.Metric{Kind: kind, Name: "cpu", Target: 1000}
		first := map[int]int{api.ByResource: 1, api.ByPods: 1, api.ByObject: 4, api.ByExternal: 5}[kind]
		none, stale := api.ErrNone, api.ErrStale
		if kind == api.ByResource || kind == api.ByPods {
			stale = api.ErrNone // none is ready and has a use
		}
		for _, now := range []int64{math.MinInt64, -1, 0, 4} {
			wantNoOf(t, b, m, now, "web", pods, 1, 0, none)
		}
		for _, now := range []int64{20, 21, api.MaxClock, math.MaxInt64} {
			wantNoOf(t, b, m, now, "web", pods, 1, 0, stale)
		}
		for now := int64(5); now < 20; now++ {
			want := first
			if now >= 9 {
				want = 8
			}
			if n, e := Of(b, m, now, "web", pods, 1, 0); n != want || e != api.OK {
				t.Errorf("Of kind %d at %d: %d, %d, want %d", kind, now, n, e, want)
			}
		}
	}
}

func TestOfErrors(t *testing.T) {
	b := book(t)
	pods := []api.Object{pod("a", api.Ready)}
	for _, kind := range []int{api.ByResource, api.ByPods, api.ByObject, api.ByExternal} {
		m := api.Metric{Kind: kind, Name: "cpu", Target: 1000}
		for _, replicas := range offReplicas {
			wantNoOf(t, b, m, 7, "web", pods, replicas, 100, api.ErrArg)
		}
		for _, tolerance := range offTolerances {
			wantNoOf(t, b, m, 7, "web", pods, 3, tolerance, api.ErrArg)
		}
		for _, m.Target = range offTargets {
			wantNoOf(t, b, m, 7, "web", pods, 3, 100, api.ErrArg)
		}
	}
	for _, kind := range []int{api.ByResource, api.ByPods} {
		m := api.Metric{Kind: kind, Name: "cpu", Target: 1000}
		wantNoOf(t, nil, m, 7, "web", pods, 3, 100, api.ErrNone)
		wantNoOf(t, new(scrape.Book), m, 7, "web", pods, 3, 100, api.ErrNone)
		wantNoOf(t, b, m, 7, "web", nil, 3, 100, api.ErrNone)
		wantNoOf(t, b, m, 7, "a", []api.Object{pod("a", api.Bound)}, 3, 100, api.ErrNone)
		wantNoOf(t, nil, m, 7, "web", pods, -1, 100, api.ErrArg)
	}
	for _, kind := range []int{api.ByObject, api.ByExternal} {
		m := api.Metric{Kind: kind, Name: "cpu", Target: 1000}
		wantNoOf(t, nil, m, 7, "web", pods, 3, 100, api.ErrArg)
		wantNoOf(t, b, m, 4, "web", pods, 3, 100, api.ErrNone)
		wantNoOf(t, b, m, 16, "web", pods, 3, 100, api.ErrStale)
	}
}

// P20.2 Most

func TestMostTable(t *testing.T) {
	const no = api.ErrNone
	for _, c := range []struct {
		l        []int
		errors   []api.Errno
		replicas int
		want     int
		e        api.Errno
	}{
		{[]int{2, 0}, []api.Errno{api.OK, no}, 3, 3, api.OK},
		{[]int{0, 2}, []api.Errno{no, api.OK}, 3, 3, api.OK},
		{[]int{3, 0}, []api.Errno{api.OK, no}, 3, 3, api.OK},
		{[]int{4, 0}, []api.Errno{api.OK, no}, 3, 4, api.OK},
		{[]int{4, 9}, []api.Errno{api.OK, no}, 3, 4, api.OK},
		{[]int{9, 4}, []api.Errno{no, api.OK}, 3, 4, api.OK},
		{[]int{2, 9}, []api.Errno{api.OK, no}, 3, 3, api.OK},
		{[]int{2, 1}, []api.Errno{api.OK, api.OK}, 3, 2, api.OK},
		{[]int{1, 2}, []api.Errno{api.OK, api.OK}, 3, 2, api.OK},
		{[]int{2}, []api.Errno{api.OK}, 3, 2, api.OK},
		{[]int{5}, []api.Errno{api.OK}, 3, 5, api.OK},
		{[]int{0}, []api.Errno{api.OK}, 3, 0, api.OK},
		{[]int{5, 7, 6}, []api.Errno{api.OK, api.OK, api.OK}, 3, 7, api.OK},
		{[]int{5, 7, 6}, []api.Errno{api.OK, no, api.OK}, 3, 6, api.OK},
		{[]int{1, 7, 2, 9}, []api.Errno{api.OK, no, api.OK, api.ErrStale}, 3, 3, api.OK},
		{[]int{-5, -7}, []api.Errno{api.OK, api.OK}, 3, -5, api.OK},
		{[]int{-7, -5}, []api.Errno{api.OK, api.OK}, -9, -5, api.OK},
		{[]int{-7, -5}, []api.Errno{api.OK, no}, -9, -7, api.OK},
		{[]int{-7, -5}, []api.Errno{no, api.OK}, -3, -3, api.OK},
		{[]int{math.MinInt}, []api.Errno{api.OK}, 3, math.MinInt, api.OK},
		{[]int{math.MaxInt, 1}, []api.Errno{api.OK, no}, 3, math.MaxInt, api.OK},
		{[]int{math.MinInt, 1}, []api.Errno{api.OK, no}, math.MinInt, math.MinInt, api.OK},
		{[]int{1, 1}, []api.Errno{api.OK, no}, math.MaxInt, math.MaxInt, api.OK},
		{[]int{1, 1}, []api.Errno{api.OK, api.OK}, math.MaxInt, 1, api.OK},
		{[]int{5}, []api.Errno{no}, 3, 0, api.ErrNone},
		{[]int{5, 6}, []api.Errno{api.ErrArg, api.ErrStale}, 3, 0, api.ErrNone},
		{nil, nil, 3, 0, api.ErrNone},
		{[]int{}, nil, 3, 0, api.ErrNone},
		{nil, []api.Errno{}, 3, 0, api.ErrNone},
		{[]int{5}, nil, 3, 0, api.ErrArg},
		{nil, []api.Errno{api.OK}, 3, 0, api.ErrArg},
		{nil, []api.Errno{no}, 3, 0, api.ErrArg},
		{[]int{5, 6}, []api.Errno{api.OK}, 3, 0, api.ErrArg},
		{[]int{5, 6}, []api.Errno{no}, 3, 0, api.ErrArg},
		{[]int{5}, []api.Errno{api.OK, api.OK}, 3, 0, api.ErrArg},
		{[]int{5}, []api.Errno{no, no}, 3, 0, api.ErrArg},
	} {
		if n, e := Most(c.l, c.errors, c.replicas); n != c.want || e != c.e {
			t.Errorf("Most(%v, %v, %d): %d, %d, want %d, %d", c.l, c.errors, c.replicas, n, e, c.want, c.e)
		}
	}
}

func TestMostOfAnyErrors(t *testing.T) {
	for _, e := range []api.Errno{math.MinInt, -1, api.ErrArg, api.ErrNone, api.ErrStale, api.ErrRefuse, 20, 256, 1 << 32, math.MaxInt} {
		if n, got := Most([]int{9, 2}, []api.Errno{e, api.OK}, 3); n != 3 || got != api.OK {
			t.Error(e, n, got)
		}
		if n, got := Most([]int{9}, []api.Errno{e}, 3); n != 0 || got != api.ErrNone {
			t.Error(e, n, got)
		}
	}
}

func TestMostIsAsTheChapterTells(t *testing.T) {
	r := rand.New(rand.NewSource(23))
	for range 30000 {
		var l, good []int
		var errors []api.Errno
		for range r.Intn(6) {
			l = append(l, r.Intn(9)-2)
			errors = append(errors, api.Errno(max(0, r.Intn(12)-7)))
			if errors[len(errors)-1] == api.OK {
				good = append(good, l[len(l)-1])
			}
		}
		replicas, want, wrong := r.Intn(9), 0, api.ErrNone
		if len(good) > 0 {
			slices.Sort(good)
			want, wrong = good[len(good)-1], api.OK
			if len(good) < len(l) && want < replicas {
				want = replicas
			}
		}
		if n, e := Most(l, errors, replicas); n != want || e != wrong {
			t.Fatalf("Most(%v, %v, %d): %d, %d, want %d, %d", l, errors, replicas, n, e, want, wrong)
		}
	}
}

// P20.3

func TestMoreUseOfARowProposesNoFewer(t *testing.T) {
	r := rand.New(rand.NewSource(24))
	rose := 0
	for range 4000 {
		m, l := chanceMetric(r, 500), chanceUses(r, 1000, 500)
		replicas, tolerance := chanceReplicas(r), r.Intn(300)
		before := -1
		for range 40 {
			n, e := Row(m, l, replicas, tolerance)
			if e != api.OK {
				break
			}
			if n < before {
				t.Fatalf("Row(%v, %v, %d, %d): %d, with less use %d", m, l, replicas, tolerance, n, before)
			}
			if before >= 0 && n > before {
				rose++
			}
			before = n
			for i := range l {
				if l[i].Has {
					l[i].Use += api.Milli(r.Intn(40))
				}
			}
		}
	}
	if rose < 1000 {
		t.Errorf("proposals rose %d times only", rose)
	}
}

func TestMoreUseOfAValueProposesNoFewer(t *testing.T) {
	r := rand.New(rand.NewSource(25))
	for _, of := range []call{One, Average} {
		for range 3000 {
			m := chanceMetric(r, 1<<r.Intn(54))
			replicas, tolerance := chanceReplicas(r), r.Intn(1001)
			value, before := api.Milli(0), -1
			for value <= most {
				n, e := of(m, value, replicas, tolerance)
				if e != api.OK || n < before {
					t.Fatalf("(%v, %d, %d, %d): %d, %d, with less use %d", m, value, replicas, tolerance, n, e, before)
				}
				before = n
				value += 1 + value/api.Milli(3+r.Intn(20)) + min(m.Target, most)*api.Milli(r.Intn(2))
			}
		}
	}
}

func TestMoreUseProposesNoFewerOfWhatWasScraped(t *testing.T) {
	pods := []api.Object{pod("a", api.Ready), pod("b", api.Ready), pod("c", api.Bound), pod("d", api.Ready)}
	for _, kind := range []int{api.ByResource, api.ByPods, api.ByObject, api.ByExternal} {
		b, _ := scrape.New(scrape.Rules{Most: 1, Age: 1})
		before := -1
		for at := range int64(200) {
			for i, subject := range []string{"a", "b", "web", "external"} {
				scraped(t, b, at, subject, "cpu", float64(at)*float64(i+1)/50)
			}
			n, e := Of(b, api.Metric{Kind: kind, Name: "cpu", Target: 900}, at, "web", pods, 4, 100)
			if e != api.OK || n < before {
				t.Fatalf("kind %d at %d: %d, %d, behind %d", kind, at, n, e, before)
			}
			before = n
		}
		if before <= 4 {
			t.Errorf("kind %d: %d at last", kind, before)
		}
	}
}

func TestNothingHandedInIsChanged(t *testing.T) {
	r := rand.New(rand.NewSource(26))
	b := book(t)
	for range 2000 {
		l := chanceUses(r, 1000, 1000)
		spare := append(l, unready(7, 7), missing(7), has(7, 7))
		whole := slices.Clone(spare)
		want, wrong := Row(byAsk(500), l, 3, 100)
		if !slices.Equal(spare, whole) {
			t.Fatalf("Row left %v, it was %v", spare, whole)
		}
		if n, e := Row(byAsk(500), l, 3, 100); n != want || e != wrong {
			t.Fatal("another answer, told again")
		}
	}
	pods := []api.Object{pod("c", api.Ready), pod("f", api.Failed), pod("a", api.Ready), pod("b", api.Bound), pod("x", api.Ready)}[:4]
	was := slices.Clone(pods[:5])
	for _, kind := range []int{api.ByResource, api.ByPods, api.ByObject, api.ByExternal, 4} {
		m := api.Metric{Kind: kind, Name: "cpu", Target: 500}
		want, wrong := Of(b, m, 7, "web", pods, 3, 100)
		if n, e := Of(b, m, 7, "web", pods, 3, 100); n != want || e != wrong {
			t.Error("another answer, told again")
		}
	}
	if !reflect.DeepEqual(pods[:5], was) {
		t.Errorf("Of left %v", pods)
	}
	if !reflect.DeepEqual(b, book(t)) {
		t.Error("Of changed the book")
	}
	proposals, errors := []int{5, 2, 9, 7}[:3], []api.Errno{0, 7, 0, 3}[:3]
	if n, e := Most(proposals, errors, 3); n != 9 || e != api.OK {
		t.Error(n, e)
	}
	if !slices.Equal(proposals[:4], []int{5, 2, 9, 7}) || !slices.Equal(errors[:4], []api.Errno{0, 7, 0, 3}) {
		t.Errorf("Most left %v, %v", proposals[:4], errors[:4])
	}
}
