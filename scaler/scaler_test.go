package scaler

import (
	"math"
	"math/rand"
	"reflect"
	"slices"
	"strings"
	"testing"

	"trimtab/api"
	"trimtab/gauge"
	"trimtab/policy"
	"trimtab/proposal"
	"trimtab/scrape"
	"trimtab/store"
)

// most is MaxReplicas.
const most = api.MaxReplicas

// noTicks are ticks at which there is no pass; ticks are such as there are.
var (
	noTicks = []int64{math.MinInt64, math.MinInt64 + 1, -api.MaxClock, -1, api.MaxClock + 1, math.MaxInt64 - 1, math.MaxInt64}
	ticks   = []int64{0, 1, 7, 1 << 32, api.MaxClock - 1, api.MaxClock}
)

// without are numbers of writings without an end.
var without = []int{-1, -2, -1 << 32, math.MinInt + 1, math.MinInt}

// missing are names of nothing that is there: other ones, and texts that are none.
var missing = []string{"", "-", "x", "hh", "H", "h ", "h\x00", "é", "\xff", strings.Repeat("h", 32), strings.Repeat("h", 33), strings.Repeat("h", 5000)}

// load is measured outside, one for each replica: so many ask for as many.
var load = api.Metric{Kind: api.ByExternal, Name: "load", Target: 1000}

// free lets one go anywhere, at once; barred lets one go nowhere.
var (
	free   = api.Behavior{Policies: []api.Policy{{Value: most, Period: 1}}}
	barred = api.Behavior{Pick: api.PickNone}
)

// steps are a behavior that lets so many pods go in a period.
func steps(n, period int) api.Behavior {
	return api.Behavior{Policies: []api.Policy{{Value: n, Period: period}}}
}

// slow is a behavior with a window.
func slow(b api.Behavior, width int) api.Behavior {
	b.Window = width
	return b
}

// app is a workload of so many.
func app(name string, replicas int) api.Object {
	return api.Object{Kind: api.KindWorkload, Name: name, Workload: api.Workload{Replicas: replicas, Ask: api.Resources{CPU: 1000}}}
}

// hpa scales the workload "app" by the load, freely.
func hpa(name string, low, high int) api.Object {
	return api.Object{Kind: api.KindHpa, Name: name, Hpa: api.Hpa{Target: "app", Min: low, Max: high, Metrics: []api.Metric{load}, Up: free, Down: free}}
}

// pod is one of a workload, on a node.
func pod(name, owner string, phase int) api.Object {
	return api.Object{Kind: api.KindPod, Name: name, Pod: api.Pod{Owner: owner, Node: "n", Phase: phase, Ask: api.Resources{CPU: 1000}}}
}

// changed is an object, with something done to its Hpa.
func changed(o api.Object, do func(h *api.Hpa)) api.Object {
	do(&o.Hpa)
	return o
}

// done is a row of what was done at ticks: nothing each time, which counts for no
// policy.
func done(at ...int64) []api.Scaled {
	var l []api.Scaled
	for _, x := range at {
		l = append(l, api.Scaled{At: x, From: 3, To: 3})
	}
	return l
}

// many is such a row of so many, at one tick.
func many(n int, at int64) []api.Scaled { return done(slices.Repeat([]int64{at}, n)...) }

// book is one that keeps all, as long as there is something to be kept.
func book(t *testing.T) *scrape.Book {
	t.Helper()
	b, e := scrape.New(scrape.Rules{Most: api.MaxRing, Age: api.MaxPeriod})
	if e != api.OK {
		t.Fatal(e)
	}
	return b
}

// sample puts so many wholes of a metric into a book.
func sample(t *testing.T, b *scrape.Book, at int64, subject, metric string, wholes float64) {
	t.Helper()
	if _, e := b.Scrape(at, scrape.Series{Subject: subject, Metric: metric}, math.Float64bits(wholes)); e != api.OK {
		t.Fatalf("Scrape of %q %q at %d: %d", subject, metric, at, e)
	}
}

// loaded is a book by which the load asks for so many, at a tick.
func loaded(t *testing.T, at int64, n int) *scrape.Book {
	t.Helper()
	b := book(t)
	sample(t, b, at, "external", "load", float64(n))
	return b
}

// world is a store, with a scaler.
type world struct {
	t *testing.T
	s *store.Store
	c *Scaler
}

// begin is a world of these objects.
func begin(t *testing.T, l ...api.Object) *world {
	t.Helper()
	s, e := store.New(api.MaxObjects)
	if e != api.OK {
		t.Fatal(e)
	}
	w := &world{t, s, New()}
	w.put(l...)
	return w
}

// put creates objects, or puts them in the places of those that are there.
func (w *world) put(l ...api.Object) {
	w.t.Helper()
	for _, o := range l {
		was, there := w.s.Get(o.Kind, o.Name)
		o.Version = was.Version
		do := w.s.Create
		if there {
			do = w.s.Update
		}
		if _, e := do(o); e != api.OK {
			w.t.Fatalf("%q: %d", o.Name, e)
		}
	}
}

// away deletes an object.
func (w *world) away(kind int, name string) {
	w.t.Helper()
	if _, e := w.s.Delete(kind, name, 0); e != api.OK {
		w.t.Fatalf("%q: %d", name, e)
	}
}

// replicas is how many there are of the workload "app".
func (w *world) replicas() int {
	o, _ := w.s.Get(api.KindWorkload, "app")
	return o.Workload.Replicas
}

// past is what an Hpa has done.
func (w *world) past(name string) []api.Scaled {
	o, _ := w.s.Get(api.KindHpa, name)
	return o.Hpa.Past
}

// passed wants a pass to come to this, and the store to be so then: of a deed that
// many, of an intent that one the last of what was done.
func (w *world) passed(b *scrape.Book, name string, now int64, writes int, want Result) {
	w.t.Helper()
	past, before := w.past(name), w.s.Now()
	r, e := w.c.One(w.s, b, name, now, writes)
	if r != want || e != api.OK {
		w.t.Fatalf("One(%q, %d, %d): %+v, %d, want %+v", name, now, writes, r, e, want)
	}
	if w.replicas() != want.To || w.s.Now() != before+uint64(want.Wrote) {
		w.t.Fatalf("One(%q, %d, %d): there are %d, behind %d writings", name, now, writes, w.replicas(), w.s.Now()-before)
	}
	if now := w.past(name); want.Wrote == 0 && !slices.Equal(now, past) {
		w.t.Fatalf("One(%q) wrote %v", name, now)
	}
}

// goes wants a pass to go from how many there are to so many, and to tell so.
func (w *world) goes(b *scrape.Book, name string, now int64, to int) {
	w.t.Helper()
	want := Result{From: w.replicas(), To: to, Wrote: 2}
	w.passed(b, name, now, -1, want)
	if l := w.past(name); len(l) == 0 || l[len(l)-1] != (api.Scaled{At: now, From: want.From, To: to}) {
		w.t.Fatalf("%q has done %v", name, l)
	}
}

// repairs wants a pass to repair.
func (w *world) repairs(b *scrape.Book, name string, now int64, to int) {
	w.t.Helper()
	want := Result{From: w.replicas(), To: to, Repair: true, Wrote: 2}
	w.passed(b, name, now, -1, want)
	if l := w.past(name); len(l) == 0 || l[len(l)-1] != (api.Scaled{At: now, From: want.From, To: to}) {
		w.t.Fatalf("%q has done %v", name, l)
	}
}

// stays wants a pass to change nothing.
func (w *world) stays(b *scrape.Book, name string, now int64) {
	w.t.Helper()
	w.passed(b, name, now, -1, Result{From: w.replicas(), To: w.replicas()})
}

// fails wants a pass to answer an error, and nothing beside it, and to write nothing,
// however many writings there may be.
func (w *world) fails(b *scrape.Book, name string, now int64, want api.Errno) {
	w.t.Helper()
	before := w.s.Now()
	for _, writes := range []int{-1, 0, 1, 2, math.MaxInt, math.MinInt} {
		if r, e := w.c.One(w.s, b, name, now, writes); r != (Result{}) || e != want {
			w.t.Fatalf("One(%q, %d, %d): %+v, %d, want %d", name, now, writes, r, e, want)
		}
	}
	if w.s.Now() != before {
		w.t.Fatalf("One(%q, %d) wrote", name, now)
	}
}

// P23.1, a repair

func TestExample(t *testing.T) {
	w := begin(t, app("app", 1), hpa("h", 3, 9))
	w.repairs(book(t), "h", 4, 3)
}

func TestRepair(t *testing.T) {
	for _, x := range []struct{ low, high, there, to int }{
		{3, 9, 1, 3}, {3, 9, 2, 3}, {3, 9, 10, 9}, {3, 9, most, 9}, {3, 3, 2, 3}, {3, 3, 4, 3},
		{most, most, 1, most}, {most, most, most - 1, most}, {1, 1, 2, 1}, {1, 1, most, 1}, {1, most - 1, most, most - 1},
	} {
		for _, bars := range []bool{false, true} {
			h := hpa("h", x.low, x.high)
			if bars { // no policy holds a repair back
				h.Hpa.Up, h.Hpa.Down = slow(barred, 1800), slow(barred, 1800)
			}
			w := begin(t, app("app", x.there), h)
			w.repairs(loaded(t, 5, 6), "h", 5, x.to)
			if l := w.past("h"); !slices.Equal(l, []api.Scaled{{At: 5, From: x.there, To: x.to}}) {
				t.Error(l)
			}
		}
	}
}

// What is at Min or Max needs no repair.
func TestNoRepair(t *testing.T) {
	for _, there := range []int{3, 4, 8, 9} {
		w := begin(t, app("app", there), hpa("h", 3, 9))
		w.fails(book(t), "h", 5, api.ErrNone)
		w.stays(loaded(t, 5, there), "h", 5)
		for _, to := range []int{3, 4, 8, 9} {
			if to != there {
				w = begin(t, app("app", there), hpa("h", 3, 9))
				w.goes(loaded(t, 5, to), "h", 5, to)
			}
		}
	}
}

// A repair asks for no metric and for no memory, and notes nothing.
func TestRepairIsAtOnce(t *testing.T) {
	w := begin(t, app("app", 5), changed(hpa("h", 3, 9), func(h *api.Hpa) { h.Down = slow(free, 1800) }))
	w.stays(loaded(t, 50, 5), "h", 50)
	w.put(app("app", 20))
	w.repairs(loaded(t, 10, 7), "h", 10, 9) // ahead of what the memory was told
	w.put(app("app", 1))
	w.repairs(loaded(t, 60, 9), "h", 60, 3)
	w.put(app("app", 9))
	w.goes(loaded(t, 61, 3), "h", 61, 5) // by 5 at 50 and 3 at 61: 7 and 9 were never noted
	w.put(app("app", 20))
	w.repairs(book(t), "h", 70, 9)
	w.goes(loaded(t, 61, 4), "h", 70, 5) // a tick of its own was not noted, either
}

// P23.1, nothing of 0

func TestNoneThere(t *testing.T) {
	past := many(32, 9)
	for _, h := range []api.Object{hpa("h", 1, 9), hpa("h", 3, 9), changed(hpa("h", 3, 9), func(h *api.Hpa) { h.Past = past })} {
		w := begin(t, app("app", 0), h)
		w.fails(loaded(t, 5, 7), "h", 5, api.ErrState)
		w.fails(book(t), "h", 5, api.ErrState)
		w.fails(book(t), "h", 0, api.ErrState)
		if w.replicas() != 0 {
			t.Error(w.replicas())
		}
	}
}

// Of 0 nothing is noted.
func TestNoneThereNotesNothing(t *testing.T) {
	w := begin(t, app("app", 0), changed(hpa("h", 1, 9), func(h *api.Hpa) { h.Down = slow(free, 1800) }))
	w.fails(loaded(t, 20, 8), "h", 20, api.ErrState)
	w.put(app("app", 9))
	w.goes(loaded(t, 10, 4), "h", 10, 4)
}

// P23.1, the metrics

// By each kind of metric: a workload of 2, two pods of which use 1.5 of each metric.
func TestMetrics(t *testing.T) {
	b := book(t)
	for _, name := range []string{"a", "b", "elsewhere", "app", "external"} {
		for _, metric := range []string{"cpu", "mem", "hits"} {
			sample(t, b, 1, name, metric, 1.5)
		}
	}
	for _, x := range []struct {
		m    api.Metric
		want int
	}{
		{api.Metric{Kind: api.ByResource, Name: "cpu", Target: 500}, 6},  // 3000 of 1000
		{api.Metric{Kind: api.ByResource, Name: "cpu", Target: 1000}, 3}, // of 2000
		{api.Metric{Kind: api.ByResource, Name: "cpu", Target: 1500}, 2},
		{api.Metric{Kind: api.ByResource, Name: "cpu", Target: 3000}, 1},
		{api.Metric{Kind: api.ByPods, Name: "hits", Target: 300}, 10},
		{api.Metric{Kind: api.ByPods, Name: "mem", Target: 700}, 5},
		{api.Metric{Kind: api.ByObject, Name: "hits", Target: 500}, 6}, // of "app": 2 times 1500/500
		{api.Metric{Kind: api.ByObject, Name: "hits", Target: 400}, 8},
		{api.Metric{Kind: api.ByExternal, Name: "hits", Target: 500}, 3},
		{api.Metric{Kind: api.ByExternal, Name: "hits", Target: 100}, 15},
	} {
		w := begin(t, app("app", 2), app("other", 2), pod("a", "app", api.Ready), pod("b", "app", api.Ready), pod("elsewhere", "other", api.Ready),
			changed(hpa("h", 1, 99), func(h *api.Hpa) { h.Metrics = []api.Metric{x.m} }))
		if x.want == 2 {
			w.stays(b, "h", 3)
		} else {
			w.goes(b, "h", 3, x.want)
		}
	}
}

// All pods of that owner, and of no other one, whatever their phase.
func TestPodsOfTheOwner(t *testing.T) {
	metric := api.Metric{Kind: api.ByPods, Name: "hits", Target: 1000}
	for _, x := range []struct {
		more []api.Object
		want int
	}{
		{nil, 6}, // 6000 of 2000
		{[]api.Object{pod("c", "other", api.Ready), pod("d", "other", api.Bound), pod("e", "ap", api.Bound), pod("f", "app2", api.Ready)}, 6},
		{[]api.Object{pod("c", "app", api.Bound)}, 6},                               // 6000 of 3000
		{[]api.Object{pod("c", "app", api.Bound), pod("d", "app", api.Bound)}, 6},   // of 4000
		{[]api.Object{pod("c", "app", api.Ready), pod("0", "app", api.Ready)}, 6},   // of 4000, without a use
		{[]api.Object{pod("c", "app", api.Failed), pod("d", "app", api.Failed)}, 6}, // they don't count
		{[]api.Object{pod("busy", "app", api.Ready)}, 10},                           // 10000 of 3000
		{[]api.Object{pod("0", "other", api.Ready), pod("busy", "app", api.Ready)}, 10},
	} {
		w := begin(t, app("app", 3), app("other", 3), pod("a", "app", api.Ready), pod("b", "app", api.Ready),
			changed(hpa("h", 1, 99), func(h *api.Hpa) { h.Metrics = []api.Metric{metric} }))
		w.put(x.more...)
		b := book(t)
		for name, n := range map[string]float64{"a": 3, "b": 3, "busy": 4} {
			sample(t, b, 1, name, "hits", n)
		}
		w.goes(b, "h", 3, x.want)
	}
}

// Pods that are too many, or too few, for near: by those that aren't ready.
func TestPodsThatAreNotReady(t *testing.T) {
	metric := api.Metric{Kind: api.ByPods, Name: "hits", Target: 1000}
	b := book(t)
	sample(t, b, 1, "a", "hits", 2)
	w := begin(t, app("app", 3), pod("a", "app", api.Ready), changed(hpa("h", 1, 99), func(h *api.Hpa) { h.Metrics = []api.Metric{metric} }))
	waiting := api.Object{Kind: api.KindPod, Name: "w", Pod: api.Pod{Owner: "app", Ask: api.Resources{CPU: 1000}}}
	w.put(waiting)
	w.stays(b, "h", 3) // 2000 of 2000
	w.put(pod("x", "app", api.Bound))
	w.stays(b, "h", 3) // of 3000: no more above it
	w.away(api.KindPod, "x")
	w.away(api.KindPod, "w")
	w.stays(b, "h", 3) // 2000 of 1000: 2, which are no more than there are
	w.put(app("app", 1))
	w.goes(b, "h", 3, 2)
}

// Near is by the Hpa's tolerance.
func TestTolerance(t *testing.T) {
	for _, x := range []struct{ tolerance, n, want int }{
		{0, 10, 10}, {0, 11, 11}, {0, 9, 9}, {100, 11, 10}, {100, 12, 12}, {100, 9, 10}, {100, 8, 8}, {99, 11, 11}, {99, 9, 9}, {1000, 20, 10}, {1000, 21, 21}, {1000, 1, 10},
	} {
		w := begin(t, app("app", 10), changed(hpa("h", 1, 99), func(h *api.Hpa) { h.Tolerance = x.tolerance }))
		if x.want == 10 {
			w.stays(loaded(t, 2, x.n), "h", 2)
		} else {
			w.goes(loaded(t, 2, x.n), "h", 2, x.want)
		}
	}
}

// others are further metrics outside.
var others = []api.Metric{load, {Kind: api.ByExternal, Name: "more", Target: 1000}, {Kind: api.ByExternal, Name: "less", Target: 1000}, {Kind: api.ByExternal, Name: "most", Target: 1000}}

// Of several metrics the greatest proposal counts; if one has an error, no fewer
// than there are.
func TestMostOfMetrics(t *testing.T) {
	for _, x := range []struct {
		l    []int // below 0: nothing is measured
		want int   // 0: ErrNone
	}{
		{[]int{7}, 7}, {[]int{7, 3}, 7}, {[]int{3, 7}, 7}, {[]int{3, 2, 4}, 4}, {[]int{1, 2, 3, 4}, 4}, {[]int{4, 3, 2, 1}, 4}, {[]int{1, 9, 8, 2}, 9}, {[]int{1, 1, 8, 9}, 9},
		{[]int{7, -1}, 7}, {[]int{-1, 7}, 7}, {[]int{3, -1}, 5}, {[]int{-1, 3}, 5}, {[]int{-1, -1, 2, -1}, 5}, {[]int{-1, -1, -1, 6}, 6}, {[]int{5, -1}, 5},
		{[]int{-1}, 0}, {[]int{-1, -1, -1, -1}, 0},
	} {
		b := book(t)
		for i, n := range x.l {
			if n >= 0 {
				sample(t, b, 2, "external", others[i].Name, float64(n))
			}
		}
		w := begin(t, app("app", 5), changed(hpa("h", 1, 99), func(h *api.Hpa) { h.Metrics = others[:len(x.l)] }))
		switch x.want {
		case 0:
			w.fails(b, "h", 2, api.ErrNone)
		case 5:
			w.stays(b, "h", 2)
		default:
			w.goes(b, "h", 2, x.want)
		}
	}
}

// Whatever error a metric has, it is none that the pass answers.
func TestMetricsErrors(t *testing.T) {
	b := book(t)
	sample(t, b, 100, "external", "load", 7)
	w := begin(t, app("app", 5), hpa("h", 1, 99))
	w.fails(b, "h", 99, api.ErrNone)   // above the tick
	w.fails(b, "h", 1901, api.ErrNone) // stale
	w.fails(nil, "h", 100, api.ErrArg)
	w.goes(b, "h", 1900, 7)
	w = begin(t, app("app", 5), pod("a", "app", api.Ready), changed(hpa("h", 1, 99), func(h *api.Hpa) {
		h.Metrics = []api.Metric{{Kind: api.ByResource, Name: "mem", Target: 500}} // no pod asks for it: ErrZero
	}))
	sample(t, b, 100, "a", "mem", 7)
	w.fails(b, "h", 100, api.ErrNone)
}

// P23.1, Min and Max

func TestWithinMinAndMax(t *testing.T) {
	for _, x := range []struct{ n, want int }{{0, 3}, {1, 3}, {2, 3}, {3, 3}, {4, 4}, {8, 8}, {9, 9}, {10, 9}, {99, 9}, {most, 9}} {
		w := begin(t, app("app", 6), hpa("h", 3, 9))
		w.goes(loaded(t, 2, x.n), "h", 2, x.want)
	}
	w := begin(t, app("app", 3), hpa("h", 3, 9))
	w.stays(loaded(t, 2, 1), "h", 2)
	w.put(app("app", 9))
	w.stays(loaded(t, 3, 20), "h", 3)
}

// What is noted is within Min and Max as they are then, and no more.
func TestNotedWithinMinAndMax(t *testing.T) {
	width := func(h *api.Hpa) { h.Up, h.Down = slow(free, 100), slow(free, 100) }
	w := begin(t, app("app", 5), changed(hpa("h", 3, 5), width))
	w.stays(loaded(t, 10, 40), "h", 10)
	w.put(app("app", 20), changed(hpa("h", 3, 50), width))
	w.goes(loaded(t, 20, 4), "h", 20, 5) // 5 was noted, not 40
	w = begin(t, app("app", 3), changed(hpa("h", 3, 5), width))
	w.stays(loaded(t, 10, 1), "h", 10)
	w.put(app("app", 1), changed(hpa("h", 1, 50), width))
	w.goes(loaded(t, 20, 8), "h", 20, 3) // 3 was noted, not 1
}

// What was noted when Min and Max were others leads nowhere beyond them.
func TestMinAndMaxAsTheyAre(t *testing.T) {
	width := func(h *api.Hpa) { h.Up, h.Down = slow(free, 100), slow(free, 100) }
	w := begin(t, app("app", 40), changed(hpa("h", 1, 50), width))
	w.stays(loaded(t, 10, 40), "h", 10)
	w.put(app("app", 8), changed(hpa("h", 1, 9), width))
	w.stays(loaded(t, 20, 2), "h", 20)
	w.put(app("app", 5), changed(hpa("h", 5, 50), width))
	w.stays(loaded(t, 21, 60), "h", 21) // 2 was within the up window
	w.put(app("app", 60))
	w.repairs(loaded(t, 22, 60), "h", 22, 50)
}

// P23.1, the windows

func TestUpWindow(t *testing.T) {
	w := begin(t, app("app", 4), changed(hpa("h", 1, 99), func(h *api.Hpa) { h.Up = slow(free, 10) }))
	w.stays(loaded(t, 20, 4), "h", 20)
	w.stays(loaded(t, 25, 9), "h", 25)
	w.stays(loaded(t, 29, 8), "h", 29) // 4 is within it
	w.goes(loaded(t, 30, 9), "h", 30, 8)
	w.goes(loaded(t, 31, 2), "h", 31, 2) // downwards there is none
}

func TestDownWindow(t *testing.T) {
	w := begin(t, app("app", 8), changed(hpa("h", 1, 99), func(h *api.Hpa) { h.Down = slow(free, 10) }))
	w.stays(loaded(t, 20, 8), "h", 20)
	w.stays(loaded(t, 25, 2), "h", 25)
	w.stays(loaded(t, 29, 3), "h", 29) // 8 is within it
	w.goes(loaded(t, 30, 2), "h", 30, 3)
	w.goes(loaded(t, 31, 9), "h", 31, 9) // upwards there is none
}

// Several passes at one tick count, all of them.
func TestSeveralPassesAtATick(t *testing.T) {
	w := begin(t, app("app", 5), hpa("h", 1, 99))
	w.goes(loaded(t, 20, 9), "h", 20, 9)
	w.stays(loaded(t, 20, 2), "h", 20) // 9 was noted at that tick, too
	w.goes(loaded(t, 21, 2), "h", 21, 2)
	w.stays(loaded(t, 21, 9), "h", 21) // and so was 2
	w.goes(loaded(t, 22, 9), "h", 22, 9)
}

// P23.1, the policies

func TestPolicies(t *testing.T) {
	for _, x := range []struct {
		up, down     api.Behavior
		there, n, to int
	}{
		{steps(2, 5), free, 4, 9, 6}, {steps(2, 5), free, 4, 5, 5}, {steps(2, 5), free, 4, 1, 1},
		{free, steps(2, 5), 9, 1, 7}, {free, steps(2, 5), 9, 8, 8}, {free, steps(2, 5), 4, 9, 9},
		{barred, free, 4, 9, 4}, {free, barred, 4, 1, 4}, {barred, barred, 4, 1, 4}, {barred, barred, 4, 9, 4},
		{api.Behavior{}, api.Behavior{}, 20, 99, 40}, {api.Behavior{}, api.Behavior{}, 3, 99, 7}, {api.Behavior{}, api.Behavior{}, 50, 1, 1}, // by default
		{api.Behavior{Pick: api.PickMin, Policies: []api.Policy{{Value: 3, Period: 5}, {Value: 1, Period: 5}}}, free, 4, 9, 5},
		{api.Behavior{Pick: api.PickMax, Policies: []api.Policy{{Value: 3, Period: 5}, {Value: 1, Period: 5}}}, free, 4, 9, 7},
	} {
		w := begin(t, app("app", x.there), changed(hpa("h", 1, 99), func(h *api.Hpa) { h.Up, h.Down = x.up, x.down }))
		if x.to == x.there {
			w.stays(loaded(t, 2, x.n), "h", 2)
		} else {
			w.goes(loaded(t, 2, x.n), "h", 2, x.to)
		}
	}
}

// What was done counts, until its period is over.
func TestPoliciesOfThePast(t *testing.T) {
	w := begin(t, app("app", 4), changed(hpa("h", 1, 99), func(h *api.Hpa) { h.Up, h.Down = steps(2, 5), steps(3, 4) }))
	w.goes(loaded(t, 10, 5), "h", 10, 5)
	w.goes(loaded(t, 12, 9), "h", 12, 6)
	w.stays(loaded(t, 14, 9), "h", 14)
	w.goes(loaded(t, 15, 9), "h", 15, 7)
	w.stays(loaded(t, 16, 9), "h", 16)
	w.goes(loaded(t, 17, 1), "h", 17, 4)
	w.stays(loaded(t, 20, 1), "h", 20)
	w.goes(loaded(t, 21, 1), "h", 21, 1)
	w.goes(loaded(t, 22, 9), "h", 22, 3)
}

// A repair is a thing that was done, as others are.
func TestRepairsCount(t *testing.T) {
	w := begin(t, app("app", 1), changed(hpa("h", 4, 99), func(h *api.Hpa) { h.Up = steps(5, 10) }))
	w.repairs(loaded(t, 10, 20), "h", 10, 4)
	w.goes(loaded(t, 11, 20), "h", 11, 6) // 3 of 5 are gone
	w.stays(loaded(t, 19, 20), "h", 19)
	w.goes(loaded(t, 20, 20), "h", 20, 9)
}

// P23.1 and P2: an intent counts, whether its deed came or not.
func TestIntentsCount(t *testing.T) {
	w := begin(t, app("app", 4), changed(hpa("h", 1, 99), func(h *api.Hpa) { h.Up, h.Down = steps(3, 10), steps(2, 10) }))
	w.passed(loaded(t, 10, 20), "h", 10, 1, Result{From: 4, To: 4, Wrote: 1})
	w.c.Restart() // the store alone tells of it
	w.stays(loaded(t, 12, 20), "h", 12)
	w.stays(loaded(t, 19, 20), "h", 19)
	w.goes(loaded(t, 20, 20), "h", 20, 7)
	w.stays(loaded(t, 21, 20), "h", 21)
	want := []api.Scaled{{At: 10, From: 4, To: 7}, {At: 20, From: 4, To: 7}}
	if l := w.past("h"); !slices.Equal(l, want) {
		t.Error(l)
	}
	w.passed(loaded(t, 22, 1), "h", 22, 1, Result{From: 7, To: 7, Wrote: 1})
	w.stays(loaded(t, 31, 1), "h", 31)
	w.goes(loaded(t, 32, 1), "h", 32, 5)
}

// P23.1, writings

func TestWritings(t *testing.T) {
	for _, writes := range append([]int{0, 1, 2, 3, 4, 1 << 32, 1<<32 + 1, math.MaxInt - 1, math.MaxInt}, without...) {
		wrote := 2
		if writes >= 0 {
			wrote = min(writes, 2)
		}
		for _, x := range []struct {
			there, to int
			repair    bool
		}{{4, 7, false}, {7, 4, false}, {1, 3, true}, {20, 9, true}} {
			w := begin(t, app("app", x.there), hpa("h", 3, 9))
			want := Result{From: x.there, To: x.there, Repair: x.repair, Wrote: wrote}
			if wrote == 2 {
				want.To = x.to
			}
			before := w.s.Now()
			w.passed(loaded(t, 5, x.to), "h", 5, writes, want)
			events, _ := w.s.Since(before)
			all := []api.Event{{Type: api.Updated, Kind: api.KindHpa, Name: "h", Version: before + 1}, {Type: api.Updated, Kind: api.KindWorkload, Name: "app", Version: before + 2}}
			if !slices.Equal(events, all[:wrote]) {
				t.Errorf("%d writings: %v", writes, events)
			}
			if l := w.past("h"); wrote > 0 && !slices.Equal(l, []api.Scaled{{At: 5, From: x.there, To: x.to}}) {
				t.Errorf("%d writings: %v", writes, l)
			}
		}
	}
}

// With no writing left something is noted all the same.
func TestNoWritingNotes(t *testing.T) {
	w := begin(t, app("app", 8), changed(hpa("h", 1, 99), func(h *api.Hpa) { h.Down = slow(free, 10) }))
	w.passed(loaded(t, 20, 9), "h", 20, 0, Result{From: 8, To: 8})
	w.stays(loaded(t, 29, 2), "h", 29)
	w.goes(loaded(t, 30, 2), "h", 30, 2)
	w.fails(loaded(t, 19, 2), "h", 19, api.ErrStale)
}

// Nothing but Past and Replicas is changed, and of no other object anything.
func TestWritesNothingElse(t *testing.T) {
	rich := app("app", 4)
	rich.Workload = api.Workload{Replicas: 4, Ask: api.Resources{CPU: 700, Mem: 9}, Labels: []api.Label{{Key: "a", Value: "b"}}, Select: []api.Require{{Key: "c", Op: api.There}}, Tolerate: []api.Label{{Key: "d"}}, Warm: 7}
	h := changed(hpa("h", 1, 99), func(h *api.Hpa) {
		*h = api.Hpa{Target: "app", Min: 2, Max: 30, Metrics: others, Tolerance: 20, Up: slow(steps(5, 7), 3), Down: slow(steps(4, 9), 2), Past: done(3, 4)}
	})
	w := begin(t, rich, h, app("other", 4), changed(hpa("g", 1, 99), func(h *api.Hpa) { h.Target = "other" }), pod("p", "app", api.Ready),
		api.Object{Kind: api.KindNode, Name: "n", Node: api.Node{Size: api.Resources{CPU: 1}}}, api.Object{Kind: api.KindGroup, Name: "g", Group: api.Group{Max: 3, Size: api.Resources{CPU: 1}}})
	want := all(w.s)
	w.goes(loaded(t, 5, 20), "h", 5, 9)
	for i := range want {
		switch o := &want[i]; {
		case o.Kind == api.KindHpa && o.Name == "h":
			o.Hpa.Past, o.Version = append(o.Hpa.Past, api.Scaled{At: 5, From: 4, To: 9}), w.s.Now()-1
		case o.Kind == api.KindWorkload && o.Name == "app":
			o.Workload.Replicas, o.Version = 9, w.s.Now()
		}
	}
	if got := all(w.s); !reflect.DeepEqual(got, want) {
		t.Errorf("%+v, want %+v", got, want)
	}
}

// all is all objects of a store.
func all(s *store.Store) []api.Object {
	var l []api.Object
	for kind := range api.Kinds {
		l = slices.AppendSeq(l, s.List(kind))
	}
	return l
}

// P23.1, what is kept

func TestKept(t *testing.T) {
	for _, x := range []struct {
		past []api.Scaled
		now  int64
		from int // of past, what is kept
	}{
		{nil, 0, 0}, {done(0), 0, 0}, {done(7, 7, 9), 9, 0}, {done(7, 7, 9), 1806, 0}, {done(7, 7, 9), 1807, 2}, {done(7, 7, 9), 1808, 2}, {done(7, 7, 9), 1809, 3},
		{many(31, 9), 9, 0}, {many(31, 9), 1808, 0}, {many(32, 9), 1809, 32},
		{append(done(9), many(31, 10)...), 1809, 1}, {append(many(31, 9), done(10)...), 1809, 31},
		{done(api.MaxClock - 1800), api.MaxClock, 1}, {done(api.MaxClock-1799, api.MaxClock), api.MaxClock, 0},
	} {
		for _, there := range []int{4, 20} { // be it a repair or not
			w := begin(t, app("app", there), changed(hpa("h", 1, 9), func(h *api.Hpa) { h.Past = x.past }))
			want := append(slices.Clone(x.past[x.from:]), api.Scaled{At: x.now, From: there, To: 9})
			w.passed(loaded(t, x.now, 9), "h", x.now, -1, Result{From: there, To: 9, Repair: there == 20, Wrote: 2})
			if l := w.past("h"); !slices.Equal(l, want) {
				t.Errorf("of %v at %d: %v", x.past, x.now, l)
			}
		}
	}
}

func TestFull(t *testing.T) {
	for _, x := range []struct {
		past []api.Scaled
		now  int64
	}{
		{many(32, 9), 9}, {many(32, 9), 1808}, {append(done(9), many(31, 10)...), 1808},
		{many(32, 9), 8}, {append(many(31, 9), done(50)...), 40}, // ErrFull goes ahead of ErrStale
	} {
		w := begin(t, app("app", 20), changed(hpa("h", 1, 9), func(h *api.Hpa) { h.Past = x.past }))
		w.fails(loaded(t, x.now, 9), "h", x.now, api.ErrFull)
		w.put(app("app", 4))
		w.fails(loaded(t, x.now, 9), "h", x.now, api.ErrFull)
		w.stays(loaded(t, x.now, 4), "h", x.now) // there is nothing to be written
		if l := w.past("h"); !slices.Equal(l, x.past) {
			t.Error(l)
		}
	}
}

// It gets full by itself, and goes on when the eldest are over.
func TestGetsFull(t *testing.T) {
	w := begin(t, app("app", 1), hpa("h", 1, 99))
	for i := range 32 {
		w.goes(loaded(t, int64(i+10), i+2), "h", int64(i+10), i+2)
	}
	w.fails(loaded(t, 42, 50), "h", 42, api.ErrFull)
	w.fails(loaded(t, 1809, 50), "h", 1809, api.ErrFull)
	w.goes(loaded(t, 1810, 50), "h", 1810, 50)
	w.goes(loaded(t, 1811, 51), "h", 1811, 51)
	if l := w.past("h"); len(l) != 32 || l[0] != (api.Scaled{At: 12, From: 3, To: 4}) {
		t.Error(l)
	}
}

func TestPastEndsAboveTheTick(t *testing.T) {
	for _, past := range [][]api.Scaled{done(10), done(3, 10), done(10, 10), many(31, 10), append(done(0), many(31, 3000)...), done(0, api.MaxClock)} {
		end := past[len(past)-1].At
		now := max(end-1, 1800)
		if end < 1800 {
			now = end - 1
		}
		w := begin(t, app("app", 20), changed(hpa("h", 1, 9), func(h *api.Hpa) { h.Past = past }))
		w.fails(loaded(t, now, 9), "h", now, api.ErrStale)
		w.put(app("app", 4))
		w.fails(loaded(t, now, 9), "h", now, api.ErrStale)
		w.stays(loaded(t, now, 4), "h", now) // there is nothing to be written
		w.goes(loaded(t, end, 9), "h", end, 9)
	}
}

// Beside these two what was noted stays noted.
func TestNotedBesideErrors(t *testing.T) {
	for want, past := range map[api.Errno][]api.Scaled{api.ErrFull: many(32, 15), api.ErrStale: done(21)} {
		w := begin(t, app("app", 8), changed(hpa("h", 1, 99), func(h *api.Hpa) { h.Down, h.Past = slow(free, 10), past }))
		w.fails(loaded(t, 20, 9), "h", 20, want)
		w.put(changed(hpa("h", 1, 99), func(h *api.Hpa) { h.Down = slow(free, 10) }))
		w.fails(loaded(t, 19, 2), "h", 19, api.ErrStale)
		w.stays(loaded(t, 29, 2), "h", 29)
		w.goes(loaded(t, 30, 2), "h", 30, 2)
	}
}

// P23.1, the memory

func TestToldALaterTick(t *testing.T) {
	w := begin(t, app("app", 4), hpa("h", 1, 99), hpa("g", 1, 99))
	w.stays(loaded(t, 20, 4), "h", 20)
	for _, now := range []int64{0, 1, 19} {
		w.fails(loaded(t, now, 9), "h", now, api.ErrStale)
		w.fails(loaded(t, now, 4), "h", now, api.ErrStale) // also if there is nothing to be written
		w.fails(loaded(t, 30, 9), "h", now, api.ErrNone)   // Most's error goes ahead
	}
	w.put(changed(hpa("h", 1, 99), func(h *api.Hpa) { h.Past = many(32, 15) }))
	w.fails(loaded(t, 19, 9), "h", 19, api.ErrStale) // ahead of ErrFull
	w.fails(loaded(t, 21, 9), "h", 21, api.ErrFull)
	w.stays(loaded(t, 10, 4), "g", 10) // another Hpa's
	w.stays(loaded(t, api.MaxClock, 4), "h", api.MaxClock)
	w.fails(loaded(t, api.MaxClock-1, 4), "h", api.MaxClock-1, api.ErrStale)
}

// What is refused notes nothing.
func TestRefusedNotesNothing(t *testing.T) {
	w := begin(t, app("app", 8), changed(hpa("h", 1, 99), func(h *api.Hpa) { h.Down = slow(free, 10) }))
	w.stays(loaded(t, 20, 8), "h", 20)
	w.fails(loaded(t, 19, 30), "h", 19, api.ErrStale)
	w.fails(book(t), "h", 21, api.ErrNone)
	w.fails(loaded(t, 22, 30), "H", 22, api.ErrNone)
	w.fails(nil, "h", 23, api.ErrArg)
	w.put(app("app", 0))
	w.fails(loaded(t, 24, 30), "h", 24, api.ErrState)
	w.away(api.KindWorkload, "app")
	w.fails(loaded(t, 25, 30), "h", 25, api.ErrNone)
	w.put(app("app", 30))
	w.goes(loaded(t, 20, 3), "h", 20, 8)
}

// It is remembered by the Hpa's name, and for each one by itself.
func TestRememberedByName(t *testing.T) {
	lazy := func(h *api.Hpa) { h.Down = slow(free, 100) }
	w := begin(t, app("app", 8), changed(hpa("h", 1, 99), lazy), changed(hpa("g", 1, 99), lazy))
	w.stays(loaded(t, 20, 8), "h", 20)
	w.goes(loaded(t, 21, 5), "g", 21, 5)
	w.put(app("app", 20))
	w.goes(loaded(t, 22, 3), "h", 22, 8)
	w.goes(loaded(t, 22, 3), "g", 22, 5)
	w.away(api.KindHpa, "h")
	w.put(app("other", 20), changed(hpa("h", 1, 99), func(h *api.Hpa) { lazy(h); h.Target = "other" }))
	if r, e := w.c.One(w.s, loaded(t, 23, 2), "h", 23, -1); r != (Result{From: 20, To: 8, Wrote: 2}) || e != api.OK {
		t.Error(r, e)
	}
}

// P23.1, errors

func TestErrArg(t *testing.T) {
	w := begin(t, app("app", 4), hpa("h", 1, 99))
	b := loaded(t, 0, 9)
	for _, now := range noTicks {
		for _, name := range append([]string{"h"}, missing...) {
			w.fails(b, name, now, api.ErrArg)
		}
	}
	for _, now := range slices.Concat(ticks, noTicks) {
		for _, name := range append([]string{"h"}, missing...) {
			w.fails(nil, name, now, api.ErrArg)
			for _, c := range []*Scaler{nil, w.c, {}} {
				if r, e := c.One(nil, b, name, now, -1); r != (Result{}) || e != api.ErrArg {
					t.Errorf("without a store: %v, %d", r, e)
				}
			}
			var none *Scaler
			if r, e := none.One(w.s, b, name, now, -1); r != (Result{}) || e != api.ErrArg {
				t.Errorf("without a scaler: %v, %d", r, e)
			}
		}
	}
	w.goes(b, "h", 0, 9) // nothing was noted meanwhile
}

func TestTicks(t *testing.T) {
	for _, now := range ticks {
		w := begin(t, app("app", 4), hpa("h", 1, 99))
		w.goes(loaded(t, now, 9), "h", now, 9)
		w = begin(t, app("app", 4), hpa("h", 5, 99))
		w.repairs(loaded(t, now, 9), "h", now, 5)
	}
}

func TestErrNone(t *testing.T) {
	w := begin(t, app("app", 4), app("x", 4), pod("hh", "app", api.Ready), hpa("h", 1, 99), changed(hpa("lost", 1, 99), func(h *api.Hpa) { h.Target = "h" }))
	for _, name := range append([]string{"app", "lost"}, missing...) {
		w.fails(loaded(t, 5, 9), name, 5, api.ErrNone)
	}
	empty, _ := store.New(1)
	if r, e := w.c.One(empty, loaded(t, 5, 9), "h", 5, -1); r != (Result{}) || e != api.ErrNone {
		t.Error(r, e)
	}
}

// A scaler that New didn't make, and things of other layers that theirs didn't.
func TestOthersMade(t *testing.T) {
	w := begin(t, app("app", 4), changed(hpa("h", 1, 99), func(h *api.Hpa) { h.Down = slow(free, 10) }))
	w.c = &Scaler{}
	w.c.Restart()
	w.c.Copy().Restart()
	w.goes(loaded(t, 5, 9), "h", 5, 9)
	w.stays(loaded(t, 6, 2), "h", 6)
	w.fails(&scrape.Book{}, "h", 6, api.ErrNone)
	if r, e := w.c.One(&store.Store{}, loaded(t, 5, 9), "h", 5, -1); r != (Result{}) || e != api.ErrNone {
		t.Error(r, e)
	}
	if n, e := w.c.Pass(&store.Store{}, &scrape.Book{}, 5, -1); n != 0 || e != api.OK {
		t.Error(n, e)
	}
}

// P23.1, Pass

// group is workloads and Hpas by these names: of each one 4, that go to 9.
func group(names ...string) []api.Object {
	var l []api.Object
	for _, name := range names {
		l = append(l, app(name, 4), changed(hpa(name, 1, 9), func(h *api.Hpa) { h.Target = name }))
	}
	return l
}

// wrote wants a Pass to make so many writings: of these objects, in order.
func (w *world) wrote(b *scrape.Book, now int64, writes int, l ...api.Event) {
	w.t.Helper()
	before := w.s.Now()
	n, e := w.c.Pass(w.s, b, now, writes)
	events, _ := w.s.Since(before)
	for i := range l {
		l[i].Type, l[i].Version = api.Updated, before+uint64(i)+1
	}
	if n != len(l) || e != api.OK || !slices.Equal(events, l) {
		w.t.Fatalf("Pass(%d, %d): %d, %d, %v, want %v", now, writes, n, e, events, l)
	}
}

// both is the events of an Hpa's intent, and of its workload's deed.
func both(names ...string) []api.Event {
	var l []api.Event
	for _, name := range names {
		l = append(l, api.Event{Kind: api.KindHpa, Name: name}, api.Event{Kind: api.KindWorkload, Name: name})
	}
	return l
}

// rising are names byte by byte, all of them such as may be.
var rising = []string{"0", "00", "10", "9", "a", "a-a", "a-b", "a0", "aa", "b", "z", "z-0", "zz"}

func TestPass(t *testing.T) {
	for n := range len(rising) + 1 {
		names := slices.Clone(rising[:n])
		slices.Reverse(names)
		w := begin(t, group(names...)...)
		w.wrote(loaded(t, 5, 9), 5, -1, both(rising[:n]...)...)
		w.wrote(loaded(t, 6, 9), 6, -1)
	}
}

func TestPassWritings(t *testing.T) {
	for writes := range 2*len(rising) + 3 {
		w := begin(t, group(rising...)...)
		w.wrote(loaded(t, 5, 9), 5, writes, both(rising...)[:min(writes, 2*len(rising))]...)
	}
	for _, writes := range append([]int{1 << 32, math.MaxInt - 1, math.MaxInt}, without...) {
		w := begin(t, group(rising...)...)
		w.wrote(loaded(t, 5, 9), 5, writes, both(rising...)...)
	}
}

// As long as writings are left: those behind have no pass, and nothing of them is
// noted.
func TestPassEnds(t *testing.T) {
	for _, x := range []struct{ writes, had int }{{0, 0}, {1, 1}, {2, 1}, {3, 2}, {4, 2}, {5, 3}, {6, 3}, {7, 3}, {-1, 3}} {
		w := begin(t, group("a", "b", "c")...)
		w.c.Pass(w.s, loaded(t, 20, 9), 20, x.writes)
		for i, name := range []string{"a", "b", "c"} {
			want := api.OK
			if i < x.had {
				want = api.ErrStale
			}
			w.put(app(name, 4), changed(hpa(name, 1, 9), func(h *api.Hpa) { h.Target = name }))
			if _, e := w.c.One(w.s, loaded(t, 19, 9), name, 19, -1); e != want {
				t.Errorf("%d writings: %q: %d, want %d", x.writes, name, e, want)
			}
		}
	}
}

// What has nothing to write uses up no writing, and has a pass.
func TestPassAtRest(t *testing.T) {
	w := begin(t, group("a", "b", "c")...)
	w.put(app("a", 9), app("b", 9))
	w.wrote(loaded(t, 20, 9), 20, 1, both("c")[:1]...)
	for _, name := range []string{"a", "b", "c"} {
		w.fails(loaded(t, 19, 9), name, 19, api.ErrStale)
	}
}

// Whatever errors: others have a pass all the same.
func TestPassWhateverErrors(t *testing.T) {
	w := begin(t, group("a", "b", "c", "d", "e", "f")...)
	w.put(app("a", 0), app("c", 20))
	w.away(api.KindWorkload, "b")
	mute := changed(hpa("d", 1, 9), func(h *api.Hpa) { h.Target, h.Metrics = "d", others[1:] })
	w.put(mute, changed(hpa("e", 1, 9), func(h *api.Hpa) { h.Target, h.Past = "e", many(32, 3) }))
	w.wrote(loaded(t, 5, 9), 5, -1, both("c", "f")...)
	w.put(app("c", 20), changed(hpa("e", 1, 9), func(h *api.Hpa) { h.Target, h.Past = "e", done(8) }))
	w.wrote(loaded(t, 6, 5), 6, 3, append(both("c"), both("f")[0])...)
	w.put(app("c", 20))
	w.wrote(book(t), 7, -1, both("c")...) // f has an error now: nothing is measured
}

// Each finds what those ahead of it have done: several scale one workload.
func TestPassOverOneWorkload(t *testing.T) {
	w := begin(t, app("app", 4), hpa("a", 1, 6), hpa("b", 1, 9), hpa("c", 1, 5))
	hpaOf := func(name string) api.Event { return api.Event{Kind: api.KindHpa, Name: name} }
	deed := api.Event{Kind: api.KindWorkload, Name: "app"}
	w.wrote(loaded(t, 5, 20), 5, -1, hpaOf("a"), deed, hpaOf("b"), deed, hpaOf("c"), deed)
	for name, want := range map[string]api.Scaled{"a": {At: 5, From: 4, To: 6}, "b": {At: 5, From: 6, To: 9}, "c": {At: 5, From: 9, To: 5}} {
		if l := w.past(name); !slices.Equal(l, []api.Scaled{want}) {
			t.Errorf("%q: %v", name, l)
		}
	}
	if w.replicas() != 5 {
		t.Error(w.replicas())
	}
}

// Each has the pods of its own workload.
func TestPassHasPodsByOwners(t *testing.T) {
	w := begin(t, group("a", "b", "c")...)
	b := book(t)
	for _, name := range []string{"a", "b", "c"} {
		w.put(changed(hpa(name, 1, 99), func(h *api.Hpa) {
			h.Target, h.Metrics = name, []api.Metric{{Kind: api.ByPods, Name: "hits", Target: 1000}}
		}))
	}
	for i, name := range []string{"x0", "x1", "x2", "x3", "x4"} { // 1 to 3 of a and of b, c has none
		w.put(pod(name, []string{"a", "b"}[i%2], api.Ready))
		sample(t, b, 1, name, "hits", float64(5+i))
	}
	w.wrote(b, 5, -1, both("a", "b")...)
	for name, want := range map[string]int{"a": 21, "b": 14, "c": 4} {
		if o, _ := w.s.Get(api.KindWorkload, name); o.Workload.Replicas != want {
			t.Errorf("%q: %d, want %d", name, o.Workload.Replicas, want)
		}
	}
}

func TestPassErrors(t *testing.T) {
	w := begin(t, group("a", "b")...)
	before, b := w.s.Now(), loaded(t, 0, 9)
	for _, writes := range append([]int{0, 1, 2, math.MaxInt}, without...) {
		for _, now := range slices.Concat(ticks, noTicks) {
			var none *Scaler
			for _, c := range []func() (int, api.Errno){
				func() (int, api.Errno) { return none.Pass(w.s, b, now, writes) },
				func() (int, api.Errno) { return w.c.Pass(nil, b, now, writes) },
				func() (int, api.Errno) { return w.c.Pass(w.s, nil, now, writes) },
				func() (int, api.Errno) { return none.Pass(nil, nil, now, writes) },
			} {
				if n, e := c(); n != 0 || e != api.ErrArg {
					t.Errorf("Pass(%d, %d): %d, %d", now, writes, n, e)
				}
			}
		}
		for _, now := range noTicks {
			if n, e := w.c.Pass(w.s, b, now, writes); n != 0 || e != api.ErrArg {
				t.Errorf("Pass(%d, %d): %d, %d", now, writes, n, e)
			}
		}
	}
	if w.s.Now() != before {
		t.Error(w.s.Now())
	}
	for _, now := range ticks {
		w = begin(t, group("a", "b")...)
		w.wrote(loaded(t, now, 9), now, -1, both("a", "b")...)
	}
}

// A full store, behind more events than it keeps.
func TestPassOfAFullStore(t *testing.T) {
	w := begin(t)
	var names []string
	for i := range api.MaxObjects / 2 {
		names = append(names, "x"+strings.Repeat("y", i/26)+string(rune('a'+i%26)))
	}
	w.put(group(names...)...)
	for range 2 * api.MaxEvents {
		w.put(app(names[0], 4))
	}
	slices.Sort(names)
	w.wrote(loaded(t, 5, 9), 5, -1, both(names...)...)
	w.wrote(loaded(t, 6, 4), 6, 509, both(names...)[:509]...)
}

// P23.1, Restart, Copy, nil

func TestRestart(t *testing.T) {
	lazy := func(h *api.Hpa) { h.Down = slow(free, 100) }
	w := begin(t, app("app", 8), changed(hpa("h", 1, 99), lazy), changed(hpa("g", 1, 99), lazy))
	w.stays(loaded(t, 20, 8), "h", 20)
	w.stays(loaded(t, 20, 8), "g", 20)
	w.stays(loaded(t, 21, 3), "h", 21)
	c := w.c.Copy()
	before := w.s.Now()
	w.c.Restart()
	if w.s.Now() != before {
		t.Error(w.s.Now())
	}
	again := w.s.Copy()
	w.goes(loaded(t, 19, 3), "h", 19, 3) // neither 8 nor 21 is remembered
	w.put(app("app", 8))
	w.goes(loaded(t, 19, 3), "g", 19, 3)
	w.c, w.s = c, again // the copy remembers both
	w.fails(loaded(t, 19, 3), "h", 19, api.ErrStale)
	w.stays(loaded(t, 22, 3), "h", 22)
	w.stays(loaded(t, 22, 3), "g", 22)
}

// What is told behind a Restart is remembered.
func TestRestartOftenTimes(t *testing.T) {
	w := begin(t, app("app", 8), changed(hpa("h", 1, 99), func(h *api.Hpa) { h.Down = slow(free, 100) }))
	w.c.Restart()
	w.c.Restart()
	for range 3 {
		w.stays(loaded(t, 20, 8), "h", 20)
		w.stays(loaded(t, 21, 3), "h", 21)
		w.c.Restart()
	}
	w.goes(loaded(t, 20, 3), "h", 20, 3)
}

func TestCopy(t *testing.T) {
	lazy := func(h *api.Hpa) { h.Down = slow(free, 100) }
	w := begin(t, app("app", 9), changed(hpa("h", 1, 99), lazy), changed(hpa("g", 1, 99), lazy))
	w.stays(loaded(t, 20, 9), "h", 20)
	one, other := &world{t, w.s.Copy(), w.c.Copy()}, &world{t, w.s.Copy(), w.c.Copy()}
	one.put(app("app", 30))
	one.goes(loaded(t, 20, 12), "h", 20, 12) // at the tick that the others know, too
	one.put(app("app", 30))
	one.goes(loaded(t, 50, 7), "h", 50, 12)
	one.stays(loaded(t, 50, 12), "g", 50)
	w.put(app("app", 30))
	w.goes(loaded(t, 22, 5), "h", 22, 9) // not 12, and 50 isn't told
	w.stays(loaded(t, 22, 9), "g", 22)
	other.put(app("app", 30))
	other.goes(loaded(t, 20, 3), "h", 20, 9)
	other.goes(loaded(t, 20, 3), "g", 20, 3)
	one.c.Restart()
	w.c = w.c.Copy().Copy()
	w.fails(loaded(t, 21, 3), "h", 21, api.ErrStale)
}

func TestNil(t *testing.T) {
	var c *Scaler
	c.Restart()
	if c.Copy() != nil {
		t.Error("a copy of none")
	}
	if New() == nil || New() == New() {
		t.Error("New")
	}
}

// P23.2

// What is handed in isn't changed, but the store.
func TestNothingElseIsChanged(t *testing.T) {
	b := book(t)
	for _, name := range []string{"a", "b", "external", "app"} {
		for at := range int64(5) {
			sample(t, b, at, name, "hits", float64(at))
		}
	}
	kept := b.Copy()
	w := begin(t, app("app", 4), pod("a", "app", api.Ready), pod("b", "app", api.Bound), changed(hpa("h", 1, 99), func(h *api.Hpa) {
		h.Metrics = []api.Metric{{Kind: api.ByPods, Name: "hits", Target: 500}, {Kind: api.ByObject, Name: "hits", Target: 500}, {Kind: api.ByExternal, Name: "hits", Target: 500}}
	}))
	was := w.s.Copy()
	w.goes(b, "h", 5, 32)
	w.c.Pass(w.s, b, 6, -1)
	if !reflect.DeepEqual(b, kept) {
		t.Error("the book is changed")
	}
	if o, _ := was.Get(api.KindWorkload, "app"); o.Workload.Replicas != 4 {
		t.Error("a copy of the store is changed")
	}
	o, _ := w.s.Get(api.KindHpa, "h")
	o.Hpa.Past[0].To, o.Hpa.Metrics[0].Name = 5, "x"
	if l := w.past("h"); l[0].To != 32 {
		t.Error(l)
	}
	sample(t, b, 6, "external", "hits", 99) // the book isn't kept
	w.fails(book(t), "h", 7, api.ErrNone)
}

// Chance

// note is a proposal that was noted.
type note struct {
	at int64
	n  int
}

// model does what the chapter's words say, by rows of all that was ever noted.
type model map[string][]note

// stable is chapter 21's, of what was noted for an Hpa.
func (m model) stable(name string, now int64, there, up, down int) int {
	low, high, lows, highs := there, there, 0, 0
	for _, x := range m[name] {
		if x.at == now || x.at < now && x.at > now-int64(up) {
			if lows == 0 || x.n < low {
				low = x.n
			}
			lows++
		}
		if x.at == now || x.at < now && x.at > now-int64(down) {
			if highs == 0 || x.n > high {
				high = x.n
			}
			highs++
		}
	}
	switch {
	case there < low:
		return low
	case there > high:
		return high
	}
	return there
}

// between is a number, at least low, at most high.
func between(n, low, high int) int {
	if n < low {
		return low
	}
	if n > high {
		return high
	}
	return n
}

// to is how many there should be, and whether that is a repair.
func (m model) to(s *store.Store, b *scrape.Book, o api.Object, now int64, there int) (int, bool, api.Errno) {
	h := o.Hpa
	if there < h.Min {
		return h.Min, true, api.OK
	}
	if there > h.Max {
		return h.Max, true, api.OK
	}
	var own []api.Object
	for p := range s.List(api.KindPod) {
		if p.Pod.Owner == h.Target {
			own = append(own, p)
		}
	}
	var l []int
	var errors []api.Errno
	for _, x := range h.Metrics {
		n, e := proposal.Of(b, x, now, h.Target, own, there, h.Tolerance)
		l, errors = append(l, n), append(errors, e)
	}
	n, e := proposal.Most(l, errors, there)
	if e != api.OK {
		return 0, false, e
	}
	for _, x := range m[o.Name] {
		if x.at > now {
			return 0, false, api.ErrStale
		}
	}
	m[o.Name] = append(m[o.Name], note{now, between(n, h.Min, h.Max)})
	goal := between(m.stable(o.Name, now, there, h.Up.Window, h.Down.Window), h.Min, h.Max)
	return policy.Go(h.Up, h.Down, h.Past, now, there, goal), false, api.OK
}

// one is a pass over an Hpa.
func (m model) one(s *store.Store, b *scrape.Book, name string, now int64, writes int) (Result, api.Errno) {
	o, is := s.Get(api.KindHpa, name)
	if !is {
		return Result{}, api.ErrNone
	}
	w, is := s.Get(api.KindWorkload, o.Hpa.Target)
	if !is {
		return Result{}, api.ErrNone
	}
	there := w.Workload.Replicas
	if there == 0 {
		return Result{}, api.ErrState
	}
	to, repair, e := m.to(s, b, o, now, there)
	if e != api.OK {
		return Result{}, e
	}
	r := Result{From: there, To: there, Repair: repair}
	if to == there {
		return r, api.OK
	}
	kept := policy.Keep(o.Hpa.Past, now)
	if len(kept) == 32 {
		return Result{}, api.ErrFull
	}
	for _, d := range kept {
		if d.At > now {
			return Result{}, api.ErrStale
		}
	}
	if writes == 0 {
		return r, api.OK
	}
	o.Hpa.Past = append(kept, api.Scaled{At: now, From: there, To: to})
	s.Update(o)
	r.Wrote++
	if writes == 1 {
		return r, api.OK
	}
	w.Workload.Replicas = to
	s.Update(w)
	r.Wrote++
	r.To = to
	return r, api.OK
}

// pass is one over all.
func (m model) pass(s *store.Store, b *scrape.Book, now int64, writes int) int {
	wrote := 0
	for o := range s.List(api.KindHpa) {
		if writes >= 0 && wrote >= writes {
			break
		}
		left := -1
		if writes >= 0 {
			left = writes - wrote
		}
		r, _ := m.one(s, b, o.Name, now, left)
		wrote += r.Wrote
	}
	return wrote
}

// copied is a model apart.
func (m model) copied() model {
	c := model{}
	for name, l := range m {
		c[name] = slices.Clone(l)
	}
	return c
}

// some is one of a row.
func some[T any](r *rand.Rand, l []T) T { return l[r.Intn(len(l))] }

// names by chance: of Hpas and of workloads.
var (
	hpas      = []string{"h", "g", "k"}
	workloads = []string{"app", "web"}
)

// behaves is a behavior by chance.
func behaves(r *rand.Rand) api.Behavior {
	b := api.Behavior{Window: r.Intn(12), Pick: r.Intn(2)}
	if r.Intn(12) == 0 {
		b.Pick = api.PickNone
	}
	for range r.Intn(4) {
		p := api.Policy{Value: 1 + r.Intn(6), Period: 1 + r.Intn(20)}
		if r.Intn(3) == 0 {
			p.Percent, p.Value = true, 100+r.Intn(1500)
		}
		b.Policies = append(b.Policies, p)
	}
	return b
}

// scales is an Hpa by chance, that has done nothing.
func scales(r *rand.Rand) api.Object {
	low := 1 + r.Intn(6)
	h := api.Hpa{Target: some(r, workloads), Min: low, Max: low + r.Intn(20), Tolerance: 50 * r.Intn(6), Up: behaves(r), Down: behaves(r)}
	for range 1 + r.Intn(api.MaxMetrics) {
		h.Metrics = append(h.Metrics, some(r, []api.Metric{load, load, others[1], {Kind: api.ByObject, Name: "load", Target: 2500}, {Kind: api.ByPods, Name: "hits", Target: 1500}, {Kind: api.ByResource, Name: "cpu", Target: 800}}))
	}
	return api.Object{Kind: api.KindHpa, Name: some(r, hpas), Hpa: h}
}

// edits does something to the store by chance, as somebody else would.
func (w *world) edits(r *rand.Rand, now int64) {
	w.t.Helper()
	switch r.Intn(9) {
	case 0, 1:
		w.put(app(some(r, workloads), r.Intn(25)))
	case 2:
		w.put(scales(r))
	case 3:
		w.put(pod(some(r, []string{"p0", "p1", "p2", "p3", "p4", "p5"}), some(r, workloads), api.Bound+r.Intn(3)))
	case 4:
		w.s.Delete(r.Intn(api.Kinds), some(r, slices.Concat(hpas, workloads, []string{"p0", "p3"})), 0)
	case 5:
		if o, there := w.s.Get(api.KindHpa, some(r, hpas)); there {
			o.Hpa.Past = nil
			if r.Intn(2) == 0 {
				o.Hpa.Past = many(28+r.Intn(5), max(0, now-int64(r.Intn(8))+1))
			}
			w.put(o)
		}
	}
}

// samples puts into a book what is measured at a tick by chance.
func samples(r *rand.Rand, b *scrape.Book, now int64) {
	for _, x := range []scrape.Series{{Subject: "external", Metric: "load"}, {Subject: "external", Metric: "more"}, {Subject: "app", Metric: "load"}, {Subject: "p0", Metric: "hits"}, {Subject: "p1", Metric: "cpu"}, {Subject: "p2", Metric: "hits"}, {Subject: "p3", Metric: "cpu"}} {
		if r.Intn(2) == 0 {
			bits, _ := gauge.Write(api.Milli(r.Intn(12000)))
			b.Scrape(now, x, bits)
		}
	}
}

// walk holds a scaler against the chapter's words for some steps, and counts what
// its passes answered.
func walk(t *testing.T, r *rand.Rand, answers map[api.Errno]int, kinds map[Result]int) {
	t.Helper()
	w, m, now := begin(t, app("app", 4), app("web", 7)), model{}, int64(0)
	b, e := scrape.New(scrape.Rules{Most: 1 + r.Intn(4), Age: 1 + r.Intn(15)})
	if e != api.OK {
		t.Fatal(e)
	}
	for range 100 {
		now += int64(r.Intn(4) * r.Intn(4))
		if r.Intn(30) == 0 {
			now += 1700 + int64(r.Intn(200))
		}
		w.edits(r, now)
		samples(r, b, now)
		if r.Intn(15) == 0 {
			w.c, m = w.c.Copy(), m.copied()
		}
		if r.Intn(25) == 0 {
			w.c.Restart()
			clear(m)
		}
		name, at, writes, model := some(r, hpas), max(0, now-max(0, int64(r.Intn(9))-5)), r.Intn(6)-2, w.s.Copy()
		if r.Intn(3) == 0 {
			n, e := w.c.Pass(w.s, b, at, writes)
			if want := m.pass(model, b, at, writes); n != want || e != api.OK {
				t.Fatalf("Pass(%d, %d): %d, %d, want %d", at, writes, n, e, want)
			}
		} else {
			got, e := w.c.One(w.s, b, name, at, writes)
			want, wrong := m.one(model, b, name, at, writes)
			if got != want || e != wrong {
				t.Fatalf("One(%q, %d, %d): %+v, %d, want %+v, %d", name, at, writes, got, e, want, wrong)
			}
			answers[e]++
			kinds[Result{Repair: got.Repair, Wrote: got.Wrote}]++
		}
		if !reflect.DeepEqual(all(w.s), all(model)) || w.s.Now() != model.Now() {
			t.Fatalf("the store is\n%+v, want\n%+v", all(w.s), all(model))
		}
	}
}

func TestChance(t *testing.T) {
	r := rand.New(rand.NewSource(23))
	answers, kinds := map[api.Errno]int{}, map[Result]int{}
	for range 600 {
		walk(t, r, answers, kinds)
	}
	for _, e := range []api.Errno{api.OK, api.ErrNone, api.ErrState, api.ErrStale, api.ErrFull} {
		if answers[e] < 100 {
			t.Errorf("too few answered %d: %d", e, answers[e])
		}
	}
	for _, x := range []Result{{}, {Wrote: 1}, {Wrote: 2}, {Repair: true}, {Repair: true, Wrote: 1}, {Repair: true, Wrote: 2}} {
		if kinds[x] < 100 {
			t.Errorf("too few came to %+v: %d", x, kinds[x])
		}
	}
}

// P1, P2 and P23.2: whatever is measured, and whatever crashes, each deed is within
// Min and Max, and in no period more goes by intents than the policy allows.
func TestNoFasterThanAllowed(t *testing.T) {
	r := rand.New(rand.NewSource(2))
	for range 200 {
		up, down := 1+r.Intn(5), 1+r.Intn(5)
		upPeriod, downPeriod := 1+r.Intn(30), 1+r.Intn(30)
		low := 5 + r.Intn(10) // so that no start is below 0, whatever deeds were lost
		high := low + r.Intn(40)
		w := begin(t, app("app", low), changed(hpa("h", low, high), func(h *api.Hpa) { h.Up, h.Down = steps(up, upPeriod), steps(down, downPeriod) }))
		var intents []api.Scaled
		for now := int64(0); now < 200; now += int64(r.Intn(3)) {
			before, was := w.past("h"), w.replicas()
			res, _ := w.c.One(w.s, loaded(t, now, r.Intn(60)), "h", now, r.Intn(4)-1)
			if res.Wrote > 0 {
				l := w.past("h")
				intents = append(intents, l[len(l)-1])
			} else if !slices.Equal(before, w.past("h")) {
				t.Fatal(w.past("h"))
			}
			if n := w.replicas(); n != was && (n < low || n > high) {
				t.Fatalf("%d, not %d to %d", n, low, high)
			}
			if r.Intn(10) == 0 {
				w.c.Restart()
			}
		}
		allowed(t, intents, upPeriod, up, func(d api.Scaled) int { return d.To - d.From })
		allowed(t, intents, downPeriod, down, func(d api.Scaled) int { return d.From - d.To })
	}
}

// allowed wants no more than so many to go one way, in each period that ends with
// one of the intents.
func allowed(t *testing.T, intents []api.Scaled, period, n int, way func(api.Scaled) int) {
	t.Helper()
	for i, last := range intents {
		sum := 0
		for _, d := range intents[:i+1] {
			if d.At > last.At-int64(period) {
				sum += max(0, way(d))
			}
		}
		if sum > n {
			t.Fatalf("%d of %d in %d ticks until %d: %v", sum, n, period, last.At, intents[:i+1])
		}
	}
}
