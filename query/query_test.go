package query

import (
	"cmp"
	"math"
	"math/big"
	"math/rand"
	"slices"
	"strconv"
	"strings"
	"testing"

	"trimtab/api"
	"trimtab/rate"
	"trimtab/ring"
	"trimtab/scrape"
)

const most = api.Milli(api.MaxMilli)

// noValues are values that aren't right.
var noValues = []api.Milli{math.MinInt64, math.MinInt64 + 1, -most - 1, -most, -1000, -1, most + 1, most + 2, 2 * most, math.MaxInt64 - 1, math.MaxInt64}

// book is a book of no samples.
func book(t *testing.T, most, age int) *scrape.Book {
	t.Helper()
	b, e := scrape.New(scrape.Rules{Most: most, Age: age})
	if e != api.OK {
		t.Fatal(e)
	}
	return b
}

// scraped brings a book a sample of so many whole ones.
func scraped(t *testing.T, b *scrape.Book, at int64, subject, metric string, whole float64) {
	t.Helper()
	_, e := b.Scrape(at, scrape.Series{Subject: subject, Metric: metric}, math.Float64bits(whole))
	if e != api.OK {
		t.Fatalf("Scrape(%d, %q, %q, %v): %d", at, subject, metric, whole, e)
	}
}

// pod is an object of a pod.
func pod(name string, phase int, cpu, mem api.Milli) api.Object {
	return api.Object{Kind: api.KindPod, Name: name, Pod: api.Pod{Phase: phase, Ask: api.Resources{CPU: cpu, Mem: mem}}}
}

// wantRow asks Row, and wants these uses of it.
func wantRow(t *testing.T, b *scrape.Book, now int64, metric string, pods []api.Object, want ...Use) {
	t.Helper()
	if got := Row(b, now, metric, pods); !slices.Equal(got, want) {
		t.Errorf("Row(%d, %q): %v, want %v", now, metric, got, want)
	}
}

// P13.1 Row

func TestRowOfPhases(t *testing.T) {
	b := book(t, 4, 10)
	for _, name := range []string{"p", "b", "r", "f", "x", "y"} {
		scraped(t, b, 5, name, "cpu", 1)
	}
	phases := map[string]int{"p": api.Pending, "b": api.Bound, "r": api.Ready, "f": api.Failed, "x": 4, "y": -1}
	var pods []api.Object
	for _, name := range []string{"b", "f", "p", "r", "x", "y"} {
		pods = append(pods, pod(name, phases[name], 500, 0))
	}
	wantRow(t, b, 5, "cpu", pods,
		Use{Pod: "b", Has: true, Ask: 500, Use: 1000},
		Use{Pod: "p", Has: true, Ask: 500, Use: 1000},
		Use{Pod: "r", Ready: true, Has: true, Ask: 500, Use: 1000},
		Use{Pod: "x", Has: true, Ask: 500, Use: 1000},
		Use{Pod: "y", Has: true, Ask: 500, Use: 1000})
}

func TestRowRisesByNames(t *testing.T) {
	names := []string{"b", "a", "", "ab", "Z", "a-", "a\xff", "é", "a0", "z", "10", "9", "ba"}
	var pods []api.Object
	for _, name := range names {
		pods = append(pods, pod(name, api.Ready, 0, 0))
	}
	sorted := slices.Clone(names)
	slices.Sort(sorted)
	var want []Use
	for _, name := range sorted {
		want = append(want, Use{Pod: name, Ready: true})
	}
	wantRow(t, book(t, 1, 1), 0, "cpu", pods, want...)
}

func TestRowOfOneNameAsTheyStand(t *testing.T) {
	b := book(t, 1, 10)
	scraped(t, b, 0, "a", "cpu", 2)
	var pods []api.Object
	var of [3][]Use
	for i := range 60 {
		place := (i * 2) % 3
		name := string(rune('a' + place))
		pods = append(pods, pod(name, i%3, api.Milli(i), 0))
		u := Use{Pod: name, Ready: i%3 == api.Ready, Has: name == "a", Ask: api.Milli(i)}
		if u.Has {
			u.Use = 2000
		}
		of[place] = append(of[place], u)
	}
	wantRow(t, b, 3, "cpu", pods, slices.Concat(of[0], of[1], of[2])...)
}

func TestRowOfOneNameOfOtherPhases(t *testing.T) {
	pods := []api.Object{pod("a", api.Ready, 3, 0), pod("a", api.Failed, 2, 0), pod("a", api.Bound, 1, 0)}
	wantRow(t, book(t, 1, 10), 3, "cpu", pods, Use{Pod: "a", Ready: true, Ask: 3}, Use{Pod: "a", Ask: 1})
}

func TestRowOfOtherKinds(t *testing.T) {
	b := book(t, 1, 10)
	scraped(t, b, 0, "a", "cpu", 2)
	var pods []api.Object
	for _, kind := range []int{math.MinInt, -1, api.KindWorkload, api.KindNode, api.KindGroup, api.KindHpa, api.Kinds, 6, math.MaxInt} {
		o := pod("a", api.Ready, 1, 1)
		o.Kind = kind
		pods = append(pods, o)
	}
	wantRow(t, b, 0, "cpu", pods)
	wantRow(t, b, 0, "cpu", append(pods, pod("a", api.Ready, 7, 1)), Use{Pod: "a", Ready: true, Has: true, Ask: 7, Use: 2000})
}

func TestRowAsksByMetric(t *testing.T) {
	b := book(t, 1, 10)
	pods := []api.Object{pod("a", api.Ready, 300, 400)}
	asks := map[string]api.Milli{
		"cpu": 300, "mem": 400, "": 0, "CPU": 0, "cpus": 0, "cp": 0, "memory": 0, "me": 0, "Mem": 0, "rps": 0,
		" cpu": 0, "cpu ": 0, "cpu\x00": 0, strings.Repeat("cpu", 20): 0,
	}
	for metric, ask := range asks {
		wantRow(t, b, 0, metric, pods, Use{Pod: "a", Ready: true, Ask: ask})
	}
}

func TestRowUsesItsMetricAlone(t *testing.T) {
	b := book(t, 4, 10)
	scraped(t, b, 1, "a", "cpu", 1)
	scraped(t, b, 2, "a", "mem", 2)
	scraped(t, b, 3, "a", "rps", 3)
	scraped(t, b, 4, "b", "cpu", 4)
	pods := []api.Object{pod("a", api.Ready, 10, 20), pod("b", api.Ready, 30, 40)}
	wantRow(t, b, 5, "cpu", pods, Use{"a", true, true, 10, 1000}, Use{"b", true, true, 30, 4000})
	wantRow(t, b, 5, "mem", pods, Use{"a", true, true, 20, 2000}, Use{"b", true, false, 40, 0})
	wantRow(t, b, 5, "rps", pods, Use{"a", true, true, 0, 3000}, Use{"b", true, false, 0, 0})
	wantRow(t, b, 5, "a", pods, Use{"a", true, false, 0, 0}, Use{"b", true, false, 0, 0})
}

func TestRowUsesWhatIsFresh(t *testing.T) {
	b := book(t, 4, 10)
	scraped(t, b, 5, "a", "cpu", 1)
	scraped(t, b, 9, "a", "cpu", 2)
	pods := []api.Object{pod("a", api.Ready, 10, 0)}
	none := Use{"a", true, false, 10, 0}
	for _, now := range []int64{math.MinInt64, -1, 0, 4, 20, 21, api.MaxClock, math.MaxInt64} {
		wantRow(t, b, now, "cpu", pods, none)
	}
	for _, now := range []int64{5, 6, 8} {
		wantRow(t, b, now, "cpu", pods, Use{"a", true, true, 10, 1000})
	}
	for _, now := range []int64{9, 15, 16, 19} {
		wantRow(t, b, now, "cpu", pods, Use{"a", true, true, 10, 2000})
	}
}

func TestRowHasAUseOfZero(t *testing.T) {
	b := book(t, 4, 10)
	scraped(t, b, 5, "a", "cpu", 0)
	wantRow(t, b, 5, "cpu", []api.Object{pod("a", api.Ready, 0, 0)}, Use{"a", true, true, 0, 0})
}

func TestRowAsksAsTheyStand(t *testing.T) {
	b := book(t, 4, 10)
	for _, m := range append([]api.Milli{0, 1, most}, noValues...) {
		wantRow(t, b, 5, "cpu", []api.Object{pod("a", api.Bound, m, 3)}, Use{"a", false, false, m, 0})
		wantRow(t, b, 5, "mem", []api.Object{pod("a", api.Bound, 3, m)}, Use{"a", false, false, m, 0})
	}
}

func TestRowOfNothing(t *testing.T) {
	b := book(t, 4, 10)
	wantRow(t, b, 5, "cpu", nil)
	wantRow(t, b, 5, "cpu", []api.Object{})
	wantRow(t, b, 5, "cpu", []api.Object{pod("a", api.Failed, 1, 2)})
	wantRow(t, nil, 5, "cpu", nil)
	wantRow(t, nil, 5, "cpu", []api.Object{pod("b", api.Ready, 1, 2), pod("a", api.Bound, 3, 4), pod("c", api.Failed, 1, 2)},
		Use{"a", false, false, 3, 0}, Use{"b", true, false, 1, 0})
	wantRow(t, new(scrape.Book), 5, "mem", []api.Object{pod("b", api.Ready, 1, 2)}, Use{"b", true, false, 2, 0})
	wantRow(t, b, 5, "cpu", []api.Object{{Kind: api.KindPod}}, Use{})
}

// slowRow tells Row by picking the least name that is left, again and again.
func slowRow(b *scrape.Book, now int64, metric string, pods []api.Object) []Use {
	left := slices.DeleteFunc(slices.Clone(pods), func(o api.Object) bool {
		return o.Kind != api.KindPod || o.Pod.Phase == api.Failed
	})
	var l []Use
	for len(left) > 0 {
		least := 0
		for i := range left {
			if left[i].Name < left[least].Name {
				least = i
			}
		}
		o := left[least]
		left = slices.Delete(left, least, least+1)
		u := Use{Pod: o.Name, Ready: o.Pod.Phase == api.Ready}
		if metric == "cpu" {
			u.Ask = o.Pod.Ask.CPU
		}
		if metric == "mem" {
			u.Ask = o.Pod.Ask.Mem
		}
		if m, e := b.Fresh(now, scrape.Series{Subject: o.Name, Metric: metric}); e == api.OK {
			u.Has, u.Use = true, m
		}
		l = append(l, u)
	}
	return l
}

func TestRowAtRandom(t *testing.T) {
	r := rand.New(rand.NewSource(13))
	metrics := []string{"cpu", "mem", "rps"}
	for range 300 {
		b := book(t, 1+r.Intn(4), 1+r.Intn(8))
		at := int64(0)
		for range r.Intn(60) {
			at += 1 + r.Int63n(2)
			scraped(t, b, at, "p"+strconv.Itoa(r.Intn(12)), metrics[r.Intn(3)], float64(r.Intn(5)))
		}
		var pods []api.Object
		for range r.Intn(40) {
			o := pod("p"+strconv.Itoa(r.Intn(14)), r.Intn(4), api.Milli(r.Intn(1000)), api.Milli(r.Intn(1000)))
			if r.Intn(8) == 0 {
				o.Kind = r.Intn(api.Kinds)
			}
			pods = append(pods, o)
		}
		now, metric := at-r.Int63n(10)+3, metrics[r.Intn(3)]
		wantRow(t, b, now, metric, pods, slowRow(b, now, metric, pods)...)
	}
}

// P13.1 One, Rate

func TestOne(t *testing.T) {
	b := book(t, 2, 10)
	scraped(t, b, 5, "queue", "len", 1)
	scraped(t, b, 9, "queue", "len", 2.5)
	scraped(t, b, 9, "len", "queue", 7)
	scraped(t, b, 9, "queue", "age", 0)
	rows := []struct {
		now           int64
		thing, metric string
		want          api.Milli
		e             api.Errno
	}{
		{5, "queue", "len", 1000, api.OK},
		{8, "queue", "len", 1000, api.OK},
		{9, "queue", "len", 2500, api.OK},
		{19, "queue", "len", 2500, api.OK},
		{20, "queue", "len", 0, api.ErrStale},
		{math.MaxInt64, "queue", "len", 0, api.ErrStale},
		{4, "queue", "len", 0, api.ErrNone},
		{math.MinInt64, "queue", "len", 0, api.ErrNone},
		{9, "len", "queue", 7000, api.OK},
		{9, "queue", "age", 0, api.OK},
		{9, "len", "len", 0, api.ErrNone},
		{9, "queue", "queue", 0, api.ErrNone},
		{9, "", "", 0, api.ErrNone},
		{9, "queue", "", 0, api.ErrNone},
		{9, "", "len", 0, api.ErrNone},
		{9, "Queue", "len", 0, api.ErrNone},
		{9, "\xff", "\x00", 0, api.ErrNone},
	}
	for _, r := range rows {
		if m, e := One(b, r.now, r.thing, r.metric); m != r.want || e != r.e {
			t.Errorf("One(%d, %q, %q): %d, %d, want %d, %d", r.now, r.thing, r.metric, m, e, r.want, r.e)
		}
	}
	if m, e := One(nil, 9, "queue", "len"); m != 0 || e != api.ErrArg {
		t.Errorf("One of a nil book: %d, %d", m, e)
	}
	if m, e := One(new(scrape.Book), 9, "queue", "len"); m != 0 || e != api.ErrNone {
		t.Errorf("One of an empty book: %d, %d", m, e)
	}
}

func TestRate(t *testing.T) {
	b := book(t, 3, 10)
	scraped(t, b, 10, "site", "hits", 1)
	scraped(t, b, 14, "site", "hits", 5)
	scraped(t, b, 20, "site", "hits", 3)
	scraped(t, b, 14, "hits", "site", 1)
	scraped(t, b, 15, "hits", "site", 8)
	rows := []struct {
		now           int64
		thing, metric string
		want          api.Milli
		e             api.Errno
	}{
		{9, "site", "hits", 0, api.ErrFew},
		{10, "site", "hits", 0, api.ErrFew},
		{13, "site", "hits", 0, api.ErrFew},
		{14, "site", "hits", 1000, api.OK}, // 4000 in 4 ticks
		{19, "site", "hits", 1000, api.OK}, // 20 is still above now
		{20, "site", "hits", 700, api.OK},  // 7000 in 10
		{21, "site", "hits", 500, api.OK},  // 10 is stale: 3000 in 6
		{24, "site", "hits", 500, api.OK},
		{25, "site", "hits", 0, api.ErrFew}, // 14 is stale too
		{30, "site", "hits", 0, api.ErrFew},
		{31, "site", "hits", 0, api.ErrFew}, // all are
		{math.MaxInt64, "site", "hits", 0, api.ErrFew},
		{math.MinInt64, "site", "hits", 0, api.ErrFew},
		{20, "hits", "site", 7000, api.OK},
		{20, "site", "site", 0, api.ErrFew},
		{20, "hits", "hits", 0, api.ErrFew},
		{20, "", "", 0, api.ErrFew},
	}
	for _, r := range rows {
		if m, e := Rate(b, r.now, r.thing, r.metric); m != r.want || e != r.e {
			t.Errorf("Rate(%d, %q, %q): %d, %d, want %d, %d", r.now, r.thing, r.metric, m, e, r.want, r.e)
		}
	}
	if m, e := Rate(nil, 20, "site", "hits"); m != 0 || e != api.ErrFew {
		t.Errorf("Rate of a nil book: %d, %d", m, e)
	}
	if m, e := Rate(new(scrape.Book), 20, "site", "hits"); m != 0 || e != api.ErrFew {
		t.Errorf("Rate of an empty book: %d, %d", m, e)
	}
}

func TestRateIsRoundedDown(t *testing.T) {
	b := book(t, 3, 10)
	scraped(t, b, 1, "a", "m", 0)
	scraped(t, b, 4, "a", "m", 0.002)
	if m, e := Rate(b, 4, "a", "m"); m != 0 || e != api.OK {
		t.Error(m, e)
	}
	scraped(t, b, 7, "a", "m", 0.011)
	if m, e := Rate(b, 7, "a", "m"); m != 1 || e != api.OK {
		t.Error(m, e)
	}
}

func TestRateOutOfRange(t *testing.T) {
	whole := float64(most) / 1000
	b := book(t, 4, 10)
	scraped(t, b, 1, "a", "m", 0)
	scraped(t, b, 2, "a", "m", whole)
	if m, e := Rate(b, 2, "a", "m"); m != most || e != api.OK {
		t.Error(m, e)
	}
	scraped(t, b, 3, "a", "m", 0)
	if m, e := Rate(b, 3, "a", "m"); m != most/2 || e != api.OK {
		t.Error(m, e)
	}
	scraped(t, b, 4, "a", "m", 0.001)
	if m, e := Rate(b, 4, "a", "m"); m != 0 || e != api.ErrRange {
		t.Error(m, e)
	}
}

func TestRateAtRandom(t *testing.T) {
	r := rand.New(rand.NewSource(31))
	for range 300 {
		size, age := 1+r.Intn(6), 1+r.Intn(12)
		b := book(t, size, age)
		var all []ring.Sample[api.Milli]
		at := int64(0)
		for range r.Intn(20) {
			at += 1 + r.Int63n(3)
			whole := float64(r.Intn(50))
			scraped(t, b, at, "a", "m", whole)
			all = append(all, ring.Sample[api.Milli]{At: at, Value: api.Milli(whole) * 1000})
		}
		all = all[max(0, len(all)-size):]
		now := at + r.Int63n(12) - 5
		fresh := slices.DeleteFunc(all, func(s ring.Sample[api.Milli]) bool { return s.At > now || now-s.At > int64(age) })
		want, wrong := rate.Rate(fresh)
		if m, e := Rate(b, now, "a", "m"); m != want || e != wrong {
			t.Errorf("Rate at %d of %v: %d, %d, want %d, %d", now, fresh, m, e, want, wrong)
		}
	}
}

// P13.1 Sum

// wantSum asks Sum.
func wantSum(t *testing.T, l []Use, ask, use api.Milli, n int, e api.Errno) {
	t.Helper()
	a, u, k, err := Sum(l)
	if a != ask || u != use || k != n || err != e {
		t.Errorf("Sum(%v): %d, %d, %d, %d, want %d, %d, %d, %d", l, a, u, k, err, ask, use, n, e)
	}
}

func TestSum(t *testing.T) {
	wantSum(t, nil, 0, 0, 0, api.OK)
	wantSum(t, []Use{}, 0, 0, 0, api.OK)
	wantSum(t, []Use{{"a", true, true, 500, 300}}, 500, 300, 1, api.OK)
	wantSum(t, []Use{{"a", false, true, 500, 300}}, 500, 300, 1, api.OK)
	wantSum(t, []Use{{"a", true, false, 500, 300}}, 0, 0, 0, api.OK)
	wantSum(t, []Use{{"a", true, true, 0, 0}, {"b", true, true, 0, 0}}, 0, 0, 2, api.OK)
	wantSum(t, []Use{
		{"c", true, true, 1, 20}, {"a", true, false, 400, 500}, {"b", false, true, 6000, 70000},
		{"c", true, true, 1, 20}, {"d", false, false, 800, 900}, {"", true, true, 3, 0},
	}, 6005, 70040, 4, api.OK)
}

func TestSumAtTheMost(t *testing.T) {
	wantSum(t, []Use{{"a", true, true, most, most}}, most, most, 1, api.OK)
	wantSum(t, []Use{{"a", true, true, most, 0}, {"b", true, true, 0, most}}, most, most, 2, api.OK)
	wantSum(t, []Use{{"a", true, true, most - 1, 5}, {"b", true, true, 1, 6}}, most, 11, 2, api.OK)
	wantSum(t, []Use{{"a", true, true, 5, most - 1}, {"b", true, true, 6, 1}}, 11, most, 2, api.OK)
	wantSum(t, []Use{{"a", true, true, most, 5}, {"b", true, true, 1, 6}}, 0, 0, 0, api.ErrRange)
	wantSum(t, []Use{{"a", true, true, 5, most}, {"b", true, true, 6, 1}}, 0, 0, 0, api.ErrRange)
	wantSum(t, []Use{{"a", true, true, most, most}, {"b", true, false, 1, 1}}, most, most, 1, api.OK)
	wantSum(t, []Use{{"a", true, true, most, most}, {"b", true, false, 1, 1}, {"c", true, true, 1, 0}}, 0, 0, 0, api.ErrRange)
	wantSum(t, []Use{{"a", true, true, most, most}, {"b", true, true, 0, 0}}, most, most, 2, api.OK)
}

func TestSumOfWhatIsntRight(t *testing.T) {
	for _, m := range noValues {
		for place := range 3 {
			l := []Use{{"a", true, true, 1, 2}, {"b", false, true, 3, 4}, {"c", true, true, 5, 6}}
			l[place].Ask = m
			wantSum(t, l, 0, 0, 0, api.ErrRange)
			l[place].Has = false
			a, u, n, e := Sum(l)
			if n != 2 || e != api.OK || int(a) != 9-(1+2*place) || int(u) != 12-(2+2*place) {
				t.Errorf("Sum(%v): %d, %d, %d, %d", l, a, u, n, e)
			}
			l[place].Has, l[place].Ask, l[place].Use = true, 0, m
			wantSum(t, l, 0, 0, 0, api.ErrRange)
			l[place].Has = false
			if _, _, n, e := Sum(l); n != 2 || e != api.OK {
				t.Errorf("Sum(%v): %d, %d", l, n, e)
			}
		}
	}
}

func TestSumDoesntComeBackIntoRange(t *testing.T) {
	wantSum(t, []Use{{"a", true, true, most, 0}, {"b", true, true, 1, 0}, {"c", true, true, -1, 0}}, 0, 0, 0, api.ErrRange)
	wantSum(t, []Use{{"a", true, true, -1, 0}, {"b", true, true, 1, 0}}, 0, 0, 0, api.ErrRange)
	l := slices.Repeat([]Use{{"a", true, true, most, most}}, 2048) // 2048 times 2^53 is 2^64
	wantSum(t, l, 0, 0, 0, api.ErrRange)
}

func TestSumAtRandom(t *testing.T) {
	r := rand.New(rand.NewSource(7))
	limit := big.NewInt(api.MaxMilli)
	for range 2000 {
		asks, uses, n := new(big.Int), new(big.Int), 0
		var l []Use
		for range r.Intn(8) {
			u := Use{Ready: r.Intn(2) == 0, Has: r.Intn(4) != 0, Ask: api.Milli(r.Int63n(api.MaxMilli / 3)), Use: api.Milli(r.Int63n(api.MaxMilli / 3))}
			l = append(l, u)
			if u.Has {
				asks.Add(asks, big.NewInt(int64(u.Ask)))
				uses.Add(uses, big.NewInt(int64(u.Use)))
				n++
			}
		}
		if asks.Cmp(limit) > 0 || uses.Cmp(limit) > 0 {
			wantSum(t, l, 0, 0, 0, api.ErrRange)
		} else {
			wantSum(t, l, api.Milli(asks.Int64()), api.Milli(uses.Int64()), n, api.OK)
		}
	}
}

// P13.1 Split

func TestSplit(t *testing.T) {
	l := []Use{
		{"z", true, true, 1, 2}, {"y", true, false, 3, 4}, {"x", false, true, 5, 6}, {"w", false, false, 7, 8},
		{"v", true, true, -9, most + 1}, {"v", false, true, 0, 0}, {"a", true, false, 0, 0}, {"b", true, true, 0, 0},
		{"", false, false, 0, 0}, {"z", true, true, 1, 2},
	}
	has, missing, unready := Split(l)
	if !slices.Equal(has, []Use{l[0], l[4], l[7], l[9]}) {
		t.Error("has:", has)
	}
	if !slices.Equal(missing, []Use{l[1], l[6]}) {
		t.Error("missing:", missing)
	}
	if !slices.Equal(unready, []Use{l[2], l[3], l[5], l[8]}) {
		t.Error("unready:", unready)
	}
}

func TestSplitOfNothing(t *testing.T) {
	for _, l := range [][]Use{nil, {}} {
		if has, missing, unready := Split(l); len(has)+len(missing)+len(unready) != 0 {
			t.Error(has, missing, unready)
		}
	}
}

func TestSplitOfOne(t *testing.T) {
	rows := []struct {
		ready, has bool
		want       [3]int
	}{
		{true, true, [3]int{1, 0, 0}}, {true, false, [3]int{0, 1, 0}},
		{false, true, [3]int{0, 0, 1}}, {false, false, [3]int{0, 0, 1}},
	}
	for _, r := range rows {
		has, missing, unready := Split([]Use{{Ready: r.ready, Has: r.has}})
		if got := [3]int{len(has), len(missing), len(unready)}; got != r.want {
			t.Errorf("ready %v, has %v: %v, want %v", r.ready, r.has, got, r.want)
		}
	}
}

func TestSplitOfABoundPodWithAUse(t *testing.T) { // the chapter's example
	b := book(t, 1, 10)
	scraped(t, b, 5, "a", "cpu", 1)
	has, missing, unready := Split(Row(b, 5, "cpu", []api.Object{pod("a", api.Bound, 500, 0)}))
	if len(has) != 0 || len(missing) != 0 || !slices.Equal(unready, []Use{{"a", false, true, 500, 1000}}) {
		t.Error(has, missing, unready)
	}
}

func TestSplitAtRandom(t *testing.T) {
	r := rand.New(rand.NewSource(5))
	for range 500 {
		var l []Use
		for i := range r.Intn(30) {
			l = append(l, Use{Pod: strconv.Itoa(i), Ready: r.Intn(2) == 0, Has: r.Intn(2) == 0, Ask: api.Milli(i), Use: api.Milli(r.Int())})
		}
		has, missing, unready := Split(l)
		for _, u := range has {
			if !u.Ready || !u.Has {
				t.Error("has:", u)
			}
		}
		for _, u := range missing {
			if !u.Ready || u.Has {
				t.Error("missing:", u)
			}
		}
		for _, u := range unready {
			if u.Ready {
				t.Error("unready:", u)
			}
		}
		inOrder := func(x, y Use) int { return cmp.Compare(x.Ask, y.Ask) }
		for _, part := range [][]Use{has, missing, unready} {
			if !slices.IsSortedFunc(part, inOrder) {
				t.Error("not in order:", part)
			}
		}
		together := slices.Concat(has, missing, unready)
		slices.SortFunc(together, inOrder)
		if !slices.Equal(together, l) {
			t.Errorf("together %v, want %v", together, l)
		}
	}
}

// P13.2

// roomy is a row of uses with spare room behind it, all of which is filled.
func roomy(n int) []Use {
	l := make([]Use, n, n+20)
	for i := range l[:cap(l)] {
		l[:cap(l)][i] = Use{Pod: strconv.Itoa(90 - i), Ready: i%3 != 0, Has: i%2 == 0, Ask: api.Milli(i), Use: api.Milli(2 * i)}
	}
	return l
}

func TestUsesAreNeitherChangedNorKept(t *testing.T) {
	l := roomy(30)
	before := slices.Clone(l[:cap(l)])
	Sum(l)
	has, missing, unready := Split(l)
	kept := slices.Concat(has, missing, unready)
	if !slices.Equal(l[:cap(l)], before) {
		t.Error("the argument has changed")
	}
	clear(l[:cap(l)])
	if !slices.Equal(slices.Concat(has, missing, unready), kept) {
		t.Error("the answer hangs on the argument")
	}
	copy(l[:cap(l)], before)
	for _, part := range [][]Use{has, missing, unready} {
		clear(part[:cap(part)])
	}
	if !slices.Equal(l[:cap(l)], before) {
		t.Error("the argument hangs on the answer")
	}
}

func TestAnswersOfSplitAreApart(t *testing.T) {
	l := roomy(30)
	has, missing, unready := Split(l)
	parts := [][]Use{has, missing, unready}
	for i, part := range parts {
		others := slices.Concat(parts[(i+1)%3], parts[(i+2)%3])
		keep := slices.Clone(part)
		clear(part[:cap(part)])
		if !slices.Equal(slices.Concat(parts[(i+1)%3], parts[(i+2)%3]), others) {
			t.Error("two lists of one answer share memory")
		}
		copy(part, keep)
	}
	again, _, _ := Split(l)
	clear(again[:cap(again)])
	if !slices.Equal(has, slices.DeleteFunc(slices.Clone(l), func(u Use) bool { return !u.Ready || !u.Has })) {
		t.Error("two answers share memory")
	}
}

func TestPodsAreNeitherChangedNorKept(t *testing.T) {
	b := book(t, 2, 10)
	scraped(t, b, 1, "b", "cpu", 2)
	make3 := func() []api.Object {
		all := []api.Object{pod("c", api.Ready, 1, 1), pod("b", api.Bound, 2, 2), pod("a", api.Ready, 3, 3), pod("a", api.Failed, 4, 4), pod("0", api.Ready, 5, 5)}
		for i := range all {
			all[i].Pod.Labels = []api.Label{{Key: "k", Value: "v"}}
		}
		return all
	}
	all := make3()
	l := Row(b, 2, "cpu", all[:4])
	want := []Use{{"a", true, false, 3, 0}, {"b", false, true, 2, 2000}, {"c", true, false, 1, 0}}
	if !slices.Equal(l, want) {
		t.Error(l)
	}
	if !slices.EqualFunc(all, make3(), same) {
		t.Error("the pods have changed")
	}
	clear(all)
	if !slices.Equal(l, want) {
		t.Error("the answer hangs on the pods")
	}
	again := Row(b, 2, "cpu", make3()[:4])
	clear(again[:cap(again)])
	if !slices.Equal(l, want) {
		t.Error("two answers share memory")
	}
}

// same is whether two pods are alike in all that these tests fill.
func same(x, y api.Object) bool {
	return x.Kind == y.Kind && x.Name == y.Name && x.Pod.Phase == y.Pod.Phase && x.Pod.Ask == y.Pod.Ask && slices.Equal(x.Pod.Labels, y.Pod.Labels)
}

func TestTheBookIsntChanged(t *testing.T) {
	b := book(t, 3, 10)
	scraped(t, b, 1, "a", "cpu", 1)
	scraped(t, b, 5, "a", "cpu", 2)
	scraped(t, b, 9, "b", "cpu", 3)
	pods := []api.Object{pod("a", api.Ready, 1, 1), pod("b", api.Ready, 1, 1), pod("z", api.Ready, 1, 1)}
	for _, now := range []int64{0, 9, 100} {
		Row(b, now, "cpu", pods)
		One(b, now, "a", "cpu")
		One(b, now, "z", "cpu")
		Rate(b, now, "a", "cpu")
		Rate(b, now, "z", "cpu")
	}
	wantRow(t, b, 9, "cpu", pods, Use{"a", true, true, 1, 2000}, Use{"b", true, true, 1, 3000}, Use{"z", true, false, 1, 0})
	if n := len(b.All()); n != 2 {
		t.Error(n, "series")
	}
	if n := len(b.Row(9, scrape.Series{Subject: "a", Metric: "cpu"})); n != 2 {
		t.Error(n, "samples")
	}
}
