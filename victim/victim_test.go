package victim

import (
	"math"
	"math/rand"
	"reflect"
	"slices"
	"strconv"
	"strings"
	"testing"

	"trimtab/api"
)

// phases are all phases, the first to go first.
var phases = []int{api.Failed, api.Pending, api.Bound, api.Ready}

// noPhases are numbers that are no phases.
var noPhases = []int{math.MinInt, math.MinInt + 1, -1000, -4, -3, -2, -1, 4, 5, 6, 1000, 1 << 32, math.MaxInt - 1, math.MaxInt}

// otherKinds are all kinds but a pod's, and numbers that are none.
var otherKinds = []int{math.MinInt, -2, -1, api.KindWorkload, api.KindNode, api.KindGroup, api.KindHpa, api.Kinds, 6, math.MaxInt}

// ticks rise, from the first tick that there is to the last one.
var ticks = []int64{math.MinInt64, math.MinInt64 + 1, -api.MaxClock - 1, -api.MaxClock, -2, -1, 0, 1, 2, 5, 1799, 1800, 1801,
	1 << 31, 1 << 32, 1<<32 + 1, 1 << 53, 1<<53 + 1, api.MaxClock - 1, api.MaxClock, api.MaxClock + 1, math.MaxInt64 - 1, math.MaxInt64}

// names rise, byte by byte.
var names = []string{"", "\x00", "\x00a", "-", "0", "00", "1", "10", "9", "A", "Z", "a", "a\x00", "a-", "a-0001", "a-0002", "a-0010", "a0", "aa",
	"b", strings.Repeat("b", 33), strings.Repeat("b", 33) + "b", "web-0001", "web0", "z", "\x7f", "\x80", "é", "\xff", "\xff\x00", "\xff\xff"}

func same(t *testing.T, got, want any) {
	t.Helper()
	if !reflect.DeepEqual(got, want) {
		t.Fatalf("got %+v, want %+v", got, want)
	}
}

// owned is an object of a pod of an owner.
func owned(owner, name string, phase int, since int64) api.Object {
	return api.Object{Kind: api.KindPod, Name: name, Pod: api.Pod{Owner: owner, Phase: phase, Since: since}}
}

// app is an object of a pod of the owner app.
func app(name string, phase int, since int64) api.Object { return owned("app", name, phase, since) }

// told is what a row's objects are called.
func told(l []api.Object) []string {
	var all []string
	for _, o := range l {
		all = append(all, o.Name)
	}
	return all
}

// wantBefore wants an answer of Before, and, the other way round, the other one.
func wantBefore(t *testing.T, a, b api.Object, want int) {
	t.Helper()
	if got := Before(a, b); got != want {
		t.Fatalf("Before(%q %+v, %q %+v): %d, want %d", a.Name, a.Pod, b.Name, b.Pod, got, want)
	}
	if got := Before(b, a); got != -want {
		t.Fatalf("Before(%q %+v, %q %+v): %d, want %d", b.Name, b.Pod, a.Name, a.Pod, got, -want)
	}
}

// P15.1 Before

func TestBeforeExample(t *testing.T) {
	wantBefore(t, app("a", api.Pending, 5), app("a", api.Ready, 5), -1)
}

// TestBeforeOfPhases: whatever their Since and names are.
func TestBeforeOfPhases(t *testing.T) {
	for i, first := range phases {
		for _, later := range phases[i+1:] {
			for _, x := range ticks {
				for _, y := range ticks {
					wantBefore(t, app("a", first, x), app("b", later, y), -1)
					wantBefore(t, app("b", first, x), app("a", later, y), -1)
				}
			}
		}
	}
}

// TestBeforeOfNoPhases: they go ahead of all that are phases.
func TestBeforeOfNoPhases(t *testing.T) {
	for _, none := range noPhases {
		for _, phase := range phases {
			for _, x := range ticks {
				for _, y := range ticks {
					wantBefore(t, app("a", none, x), app("b", phase, y), -1)
					wantBefore(t, app("b", none, x), app("a", phase, y), -1)
				}
			}
		}
	}
}

// TestBeforeAmongNoPhases: they are as one phase.
func TestBeforeAmongNoPhases(t *testing.T) {
	for _, x := range noPhases {
		for _, y := range noPhases {
			wantBefore(t, app("a", x, 6), app("b", y, 5), -1)
			wantBefore(t, app("a", x, math.MaxInt64), app("b", y, math.MinInt64), -1)
			wantBefore(t, app("b", x, 5), app("a", y, 5), -1)
			wantBefore(t, app("a", x, 5), app("a", y, 5), 0)
		}
	}
}

// TestBeforeOfSince: of one phase the younger one, whatever its name is.
func TestBeforeOfSince(t *testing.T) {
	for _, phase := range slices.Concat(phases, noPhases) {
		for i, earlier := range ticks {
			for _, later := range ticks[i+1:] {
				wantBefore(t, app("a", phase, later), app("b", phase, earlier), -1)
				wantBefore(t, app("b", phase, later), app("a", phase, earlier), -1)
				wantBefore(t, app("a", phase, later), app("a", phase, earlier), -1)
			}
		}
	}
}

// TestBeforeOfNames: of one phase and Since the greater name, byte by byte.
func TestBeforeOfNames(t *testing.T) {
	for _, phase := range slices.Concat(phases, noPhases) {
		for _, since := range []int64{math.MinInt64, 0, 5, math.MaxInt64} {
			for i, less := range names {
				for _, greater := range names[i+1:] {
					wantBefore(t, app(greater, phase, since), app(less, phase, since), -1)
				}
			}
		}
	}
}

func TestBeforeNeither(t *testing.T) {
	for _, phase := range slices.Concat(phases, noPhases) {
		for _, since := range ticks {
			for _, name := range names {
				wantBefore(t, app(name, phase, since), app(name, phase, since), 0)
			}
		}
	}
}

// TestBeforeOfNothingElse: no other field counts.
func TestBeforeOfNothingElse(t *testing.T) {
	full := rich("a", api.Bound, 5)
	for _, x := range []struct {
		o    api.Object
		want int
	}{
		{app("a", api.Bound, 5), 0},
		{app("b", api.Bound, 5), 1},
		{app("A", api.Bound, 5), -1},
		{app("b", api.Bound, 4), -1},
		{app("A", api.Bound, 6), 1},
		{app("b", api.Ready, 6), -1},
		{app("A", api.Pending, 4), 1},
	} {
		wantBefore(t, full, x.o, x.want)
		wantBefore(t, app("a", api.Bound, 5), x.o, x.want)
	}
}

// TestBeforeOfOtherKinds: an object that is no pod doesn't go, nor does a pod go
// ahead of it.
func TestBeforeOfOtherKinds(t *testing.T) {
	for _, kind := range otherKinds {
		for _, phase := range slices.Concat(phases, noPhases) {
			other := app("b", phase, 6)
			other.Kind = kind
			for _, with := range slices.Concat(phases, noPhases) {
				wantBefore(t, other, app("a", with, 5), 0)
				wantBefore(t, other, app("c", with, 7), 0)
			}
			for _, kind := range otherKinds {
				another := app("a", api.Bound, 5)
				another.Kind = kind
				wantBefore(t, other, another, 0)
			}
		}
	}
	wantBefore(t, api.Object{}, api.Object{}, 0)
	wantBefore(t, api.Object{}, app("a", api.Ready, 5), 0)
}

// TestBeforeInARow: no pods go ahead of one another in a ring, and what goes
// ahead of one goes ahead of all that this one goes ahead of.
func TestBeforeInARow(t *testing.T) {
	var l []api.Object
	for _, phase := range []int{-7, api.Failed, api.Pending, api.Bound, api.Ready, 4, 9} {
		for _, since := range []int64{math.MinInt64, 5, math.MaxInt64} {
			for _, name := range []string{"a", "b"} {
				l = append(l, app(name, phase, since))
			}
		}
	}
	for _, a := range l {
		for _, b := range l {
			for _, c := range l {
				if Before(a, b) <= 0 && Before(b, c) <= 0 {
					if want := min(Before(a, b), Before(b, c)); Before(a, c) != want {
						t.Fatalf("%+v, %+v, %+v: %d, want %d", a, b, c, Before(a, c), want)
					}
				}
			}
		}
	}
}

// P15.1 Order

// wantOrder wants these objects of Order, in order, each as it was.
func wantOrder(t *testing.T, l, want []api.Object) {
	t.Helper()
	got := Order(l)
	if len(got) != len(want) {
		t.Fatalf("Order: %q, want %q", told(got), told(want))
	}
	for i, o := range want {
		if !reflect.DeepEqual(got[i], o) {
			t.Fatalf("Order: %q, want %q; at %d %+v, want %+v", told(got), told(want), i, got[i], o)
		}
	}
}

// TestOrder holds rows in each order of their pods against the chapter's words.
func TestOrder(t *testing.T) {
	want := []api.Object{
		app("a", -1, 3), app("z", 4, 2),
		app("c", api.Failed, 2), app("d", api.Failed, 1),
		app("e", api.Pending, 4), app("g", api.Pending, 3), app("f", api.Pending, 3),
		app("h", api.Bound, 9),
		app("j", api.Ready, math.MaxInt64), app("i", api.Ready, math.MinInt64),
	}
	r := rand.New(rand.NewSource(1))
	for range 2000 {
		var l []api.Object
		for _, i := range r.Perm(len(want)) {
			l = append(l, want[i])
		}
		wantOrder(t, l, want)
	}
	backward := slices.Clone(want)
	slices.Reverse(backward)
	wantOrder(t, backward, want)
	wantOrder(t, want, want)
}

func TestOrderOfFew(t *testing.T) {
	wantOrder(t, nil, nil)
	wantOrder(t, []api.Object{}, nil)
	wantOrder(t, []api.Object{{}}, nil)
	wantOrder(t, []api.Object{{Kind: api.KindPod}}, []api.Object{{Kind: api.KindPod}})
	for _, phase := range slices.Concat(phases, noPhases) {
		wantOrder(t, []api.Object{app("a", phase, 5)}, []api.Object{app("a", phase, 5)})
	}
}

// TestOrderOfPodsAlone: of other kinds there stands nothing, wherever they are.
func TestOrderOfPodsAlone(t *testing.T) {
	want := []api.Object{app("c", api.Failed, 5), app("b", api.Bound, 5), app("a", api.Ready, 5)}
	var l []api.Object
	for i, o := range []api.Object{want[1], want[2], want[0]} {
		for _, kind := range otherKinds {
			other := app("x", i, int64(kind))
			other.Kind = kind
			l = append(l, other)
		}
		l = append(l, o)
	}
	wantOrder(t, l[:len(otherKinds)], nil)
	wantOrder(t, l, want)
	wantOrder(t, append(l, l[0]), want)
}

// TestOrderOfAnyOwner: of all owners, and of pods without a name.
func TestOrderOfAnyOwner(t *testing.T) {
	a, b, c, d := owned("b", "a", api.Ready, 5), owned("a", "b", api.Ready, 5), owned("", "c", api.Ready, 5), owned("", "", api.Ready, 5)
	wantOrder(t, []api.Object{a, d, c, b}, []api.Object{c, b, a, d})
}

// TestOrderAsTheyStand: those of which neither goes first, in rows short and long,
// also where their phases are unlike and none.
func TestOrderAsTheyStand(t *testing.T) {
	for _, many := range []int{2, 3, 5, 11, 12, 13, 20, 21, 40, 100, 1000} {
		var l []api.Object
		var of [3][]api.Object
		for i := range many {
			at := i % 3
			o := app([]string{"c", "b", "a"}[at], api.Bound, 5)
			o.Version = uint64(i)
			l = append(l, o)
			of[at] = append(of[at], o)
		}
		wantOrder(t, l, slices.Concat(of[0], of[1], of[2]))
	}
	var l []api.Object
	for i := range 100 {
		o := app("a", noPhases[i%len(noPhases)], 5)
		o.Version = uint64(i)
		l = append(l, o)
	}
	wantOrder(t, l, l)
}

// TestOrderLeavesAllInPlace: each object is told with all that it has, nil and
// empty rows as they were.
func TestOrderLeavesAllInPlace(t *testing.T) {
	empty := app("b", api.Ready, 5)
	empty.Pod.Labels, empty.Pod.Select, empty.Pod.Tolerate = []api.Label{}, []api.Require{}, []api.Label{}
	full := rich("a", api.Ready, 5)
	wantOrder(t, []api.Object{full, empty}, []api.Object{empty, full})
}

// slow is all pods of a row, the first to go first, by the chapter's words: again
// and again the first one of those that are left.
func slow(l []api.Object) []api.Object {
	place := map[int]int{api.Failed: 1, api.Pending: 2, api.Bound: 3, api.Ready: 4}
	ahead := func(a, b api.Object) bool {
		x, y := place[a.Pod.Phase], place[b.Pod.Phase]
		if x != y {
			return x < y
		}
		if a.Pod.Since != b.Pod.Since {
			return a.Pod.Since > b.Pod.Since
		}
		return a.Name > b.Name
	}
	var left, all []api.Object
	for _, o := range l {
		if o.Kind == api.KindPod {
			left = append(left, o)
		}
	}
	for len(left) > 0 {
		first := 0
		for i := range left {
			if ahead(left[i], left[first]) {
				first = i
			}
		}
		all = append(all, left[first])
		left = slices.Delete(left, first, first+1)
	}
	return all
}

// chance is a row of few or many objects, most of them pods, many of them alike.
func chance(r *rand.Rand) []api.Object {
	var l []api.Object
	for i := range r.Intn(40) {
		o := owned([]string{"app", "web", ""}[r.Intn(3)], names[r.Intn(len(names))], r.Intn(6)-1, ticks[r.Intn(len(ticks))])
		if r.Intn(2) == 0 {
			o.Name, o.Pod.Since = names[10+r.Intn(3)], int64(r.Intn(3))
		}
		if r.Intn(5) == 0 {
			o.Kind = otherKinds[r.Intn(len(otherKinds))]
		}
		o.Version = uint64(i)
		l = append(l, o)
	}
	return l
}

func TestOrderOfAny(t *testing.T) {
	r := rand.New(rand.NewSource(2))
	for range 5000 {
		l := chance(r)
		want := slow(l)
		wantOrder(t, l, want)
		wantOrder(t, want, want)
		for i := 1; i < len(want); i++ {
			if Before(want[i-1], want[i]) > 0 {
				t.Fatalf("%+v ahead of %+v", want[i-1], want[i])
			}
		}
	}
}

// P15.1 Pick

// wantPick wants these names of Pick, in order.
func wantPick(t *testing.T, l []api.Object, n int, want ...string) {
	t.Helper()
	if got := Pick(l, n); !slices.Equal(got, want) {
		t.Fatalf("Pick(%q, %d): %q, want %q", told(l), n, got, want)
	}
}

func TestPick(t *testing.T) {
	node := app("n", api.Failed, 9)
	node.Kind = api.KindNode
	l := []api.Object{app("a", api.Ready, 5), app("b", api.Ready, 9), node, app("c", api.Bound, 1), app("d", api.Pending, 1), app("e", api.Pending, 1), app("f", api.Failed, 0)}
	for _, n := range []int{math.MinInt, math.MinInt + 1, -7, -6, -1, 0} {
		wantPick(t, l, n)
	}
	wantPick(t, l, 1, "f")
	wantPick(t, l, 2, "f", "e")
	wantPick(t, l, 3, "f", "e", "d")
	wantPick(t, l, 4, "f", "e", "d", "c")
	wantPick(t, l, 5, "f", "e", "d", "c", "b")
	for _, n := range []int{6, 7, 8, 100, 1 << 32, math.MaxInt - 1, math.MaxInt} {
		wantPick(t, l, n, "f", "e", "d", "c", "b", "a")
	}
}

func TestPickOfNone(t *testing.T) {
	for _, n := range []int{math.MinInt, -1, 0, 1, 2, math.MaxInt} {
		wantPick(t, nil, n)
		wantPick(t, []api.Object{}, n)
		wantPick(t, []api.Object{{}, {Kind: api.KindNode, Name: "a"}}, n)
	}
}

// TestPickOfOneName: a name is told as often as pods have it.
func TestPickOfOneName(t *testing.T) {
	l := []api.Object{app("a", api.Ready, 5), app("b", api.Bound, 5), app("a", api.Ready, 5), app("a", api.Pending, 5), app("", api.Pending, 5)}
	wantPick(t, l, 9, "a", "", "b", "a", "a")
	wantPick(t, l, 4, "a", "", "b", "a")
	wantPick(t, l, 2, "a", "")
}

// TestPickOfAny: of each n the first names of what Order would tell.
func TestPickOfAny(t *testing.T) {
	r := rand.New(rand.NewSource(3))
	for range 1000 {
		l := chance(r)
		want := told(slow(l))
		for n := range len(want) + 3 {
			wantPick(t, l, n, want[:min(n, len(want))]...)
		}
	}
}

// P15.1 Live

// wantLive wants these names of Live, in order.
func wantLive(t *testing.T, l []api.Object, owner string, live, failed []string) {
	t.Helper()
	gotLive, gotFailed := Live(l, owner)
	if !slices.Equal(told(gotLive), live) || !slices.Equal(told(gotFailed), failed) {
		t.Fatalf("Live(%q, %q): %q, %q, want %q, %q", told(l), owner, told(gotLive), told(gotFailed), live, failed)
	}
}

// TestLive: in the order of the row, which isn't that of names, nor of going.
func TestLive(t *testing.T) {
	l := []api.Object{
		app("f", api.Ready, 1), app("x", api.Failed, 1), app("b", api.Bound, 9), app("c", api.Pending, 3), owned("web", "w", api.Ready, 1),
		app("z", api.Failed, 9), app("a", api.Ready, 9), owned("web", "v", api.Failed, 1), app("e", 4, 1), app("d", -1, 1), app("y", api.Failed, 0),
	}
	wantLive(t, l, "app", []string{"f", "b", "c", "a", "e", "d"}, []string{"x", "z", "y"})
	wantLive(t, l, "web", []string{"w"}, []string{"v"})
	for _, owner := range []string{"", "ap", "apps", "App", "app ", "app\x00", "we", "f", "x", strings.Repeat("app", 50)} {
		wantLive(t, l, owner, nil, nil)
	}
}

func TestLiveOfPhases(t *testing.T) {
	for _, phase := range slices.Concat(phases, noPhases) {
		l := []api.Object{app("a", phase, 5)}
		if phase == api.Failed {
			wantLive(t, l, "app", nil, []string{"a"})
		} else {
			wantLive(t, l, "app", []string{"a"}, nil)
		}
		wantLive(t, l, "web", nil, nil)
	}
}

// TestLiveOfAnyOwner: an owner that is no name has those pods that bear it.
func TestLiveOfAnyOwner(t *testing.T) {
	for i, owner := range names {
		var l []api.Object
		for j, other := range names {
			l = append(l, owned(other, strconv.Itoa(j), api.Bound, 5), owned(other, strconv.Itoa(j), api.Failed, 5))
		}
		wantLive(t, l, owner, []string{strconv.Itoa(i)}, []string{strconv.Itoa(i)})
	}
}

func TestLiveOfPodsAlone(t *testing.T) {
	var l []api.Object
	for _, kind := range otherKinds {
		for _, phase := range phases {
			o := app("a", phase, 5)
			o.Kind = kind
			l = append(l, o)
		}
	}
	wantLive(t, l, "app", nil, nil)
	wantLive(t, append(l, app("b", api.Failed, 5), l[0], app("c", api.Ready, 5), l[1]), "app", []string{"c"}, []string{"b"})
	wantLive(t, nil, "app", nil, nil)
	wantLive(t, []api.Object{}, "", nil, nil)
	wantLive(t, []api.Object{{}}, "", nil, nil)
}

// TestLiveLeavesAllInPlace: each object is told with all that it has, also those
// of one name.
func TestLiveLeavesAllInPlace(t *testing.T) {
	a, b, c, d := rich("a", api.Ready, 5), rich("a", api.Ready, 5), rich("a", api.Failed, 5), rich("a", api.Failed, 5)
	b.Version, d.Version = 8, 9
	live, failed := Live([]api.Object{d, b, c, a}, "app")
	same(t, live, []api.Object{b, a})
	same(t, failed, []api.Object{d, c})
}

func TestLiveOfAny(t *testing.T) {
	r := rand.New(rand.NewSource(4))
	for range 5000 {
		l := chance(r)
		for _, owner := range []string{"app", "web", ""} {
			var live, failed []api.Object
			for _, o := range l {
				if o.Kind == api.KindPod && o.Pod.Owner == owner {
					if o.Pod.Phase == api.Failed {
						failed = append(failed, o)
					} else {
						live = append(live, o)
					}
				}
			}
			gotLive, gotFailed := Live(l, owner)
			same(t, slices.EqualFunc(gotLive, live, alike), true)
			same(t, slices.EqualFunc(gotFailed, failed, alike), true)
		}
	}
}

// alike is whether two objects have the same in each field.
func alike(a, b api.Object) bool { return reflect.DeepEqual(a, b) }

// P15.2

// row is a row of its own memory, with spare room that has something in it.
func row[T any](spare T, l ...T) []T {
	return append(slices.Clone(l), spare, spare)[: len(l) : len(l)+2]
}

// rich is a pod of the owner app with something in each field, also of shapes of
// other kinds, and with spare room in its rows.
func rich(name string, phase int, since int64) api.Object {
	labels := func(key string) []api.Label {
		return row(api.Label{Key: "spare"}, api.Label{Key: key, Value: "x"}, api.Label{Key: "zone", Value: "a"})
	}
	asks := func() []api.Require {
		return row(api.Require{Key: "spare"}, api.Require{Key: "disk", Value: "ssd", Op: api.Isnt})
	}
	way := func(window int) api.Behavior {
		return api.Behavior{Window: window, Pick: api.PickMin, Policies: row(api.Policy{Value: 9}, api.Policy{Percent: true, Value: window, Period: 15})}
	}
	ask := api.Resources{CPU: 1000, Mem: 5}
	return api.Object{
		Kind: api.KindPod, Name: name, Version: 7,
		Workload: api.Workload{Replicas: 3, Ask: ask, Labels: labels("w"), Select: asks(), Tolerate: labels("v"), Warm: 4},
		Pod: api.Pod{Owner: "app", Node: "n1", Phase: phase, Since: since, Ask: ask, Labels: labels("p"), Select: asks(),
			Tolerate: labels("q"), Warm: 3},
		Node:  api.Node{Group: "g1", Size: ask, Labels: labels("n"), Taints: labels("t"), Since: 8, Closed: true},
		Group: api.Group{Min: 1, Max: 5, Target: 2, Size: ask, Labels: labels("g"), Taints: labels("u"), Priority: 6},
		Hpa: api.Hpa{Target: "app", Min: 1, Max: 9, Metrics: row(api.Metric{Name: "spare"}, api.Metric{Name: "cpu", Target: 500}), Tolerance: 100,
			Up: way(1), Down: way(2), Past: row(api.Scaled{At: 9}, api.Scaled{At: 3, From: 1, To: 2})},
	}
}

// riches is a row of pods and one other object, with spare room that has something
// in it; each time the same in memory of its own.
func riches() []api.Object {
	node := rich("n1", api.Bound, 4)
	node.Kind = api.KindNode
	return row(rich("spare", api.Failed, 99),
		rich("a", api.Ready, 5), rich("b", api.Failed, 5), node, rich("c", api.Bound, 5), rich("d", api.Failed, 6), rich("e", api.Pending, 5))
}

// whole is all of a row, and of its rows, with all spare room.
func whole(l []api.Object) []api.Object {
	l = slices.Clone(l[:cap(l)])
	for i := range l {
		o := &l[i]
		for _, r := range []*[]api.Label{&o.Workload.Labels, &o.Workload.Tolerate, &o.Pod.Labels, &o.Pod.Tolerate, &o.Node.Labels, &o.Node.Taints,
			&o.Group.Labels, &o.Group.Taints} {
			*r = (*r)[:cap(*r)]
		}
		for _, r := range []*[]api.Require{&o.Workload.Select, &o.Pod.Select} {
			*r = (*r)[:cap(*r)]
		}
		h := &o.Hpa
		h.Metrics, h.Past = h.Metrics[:cap(h.Metrics)], h.Past[:cap(h.Past)]
		h.Up.Policies, h.Down.Policies = h.Up.Policies[:cap(h.Up.Policies)], h.Down.Policies[:cap(h.Down.Policies)]
	}
	return l
}

// smudge writes something else to each place of a row, and of its rows that are
// neither labels nor asks, the spare ones too.
func smudge(l []api.Object) {
	l = l[:cap(l)]
	for i := range l {
		h := &l[i].Hpa
		fill(h.Metrics, api.Metric{Name: "smudged"})
		fill(h.Past, api.Scaled{At: -1})
		fill(h.Up.Policies, api.Policy{Value: -1})
		fill(h.Down.Policies, api.Policy{Value: -1})
		l[i] = api.Object{Name: "smudged"}
	}
}

// fill writes one thing to each place of a row, the spare ones too.
func fill[T any](l []T, x T) {
	for i := range l[:cap(l)] {
		l[:cap(l)][i] = x
	}
}

// rows are all that the package's calls tell of a row, but for names.
func rows(l []api.Object) [][]api.Object {
	live, failed := Live(l, "app")
	return [][]api.Object{Order(l), live, failed}
}

// wantNames are the names of what rows tells of riches.
func wantNames(t *testing.T, all [][]api.Object) {
	t.Helper()
	same(t, told(all[0]), []string{"d", "b", "e", "c", "a"})
	same(t, told(all[1]), []string{"a", "c", "e"})
	same(t, told(all[2]), []string{"b", "d"})
}

// TestNothingIsChanged: what is handed in stays, its spare room too.
func TestNothingIsChanged(t *testing.T) {
	for n := -1; n < 8; n++ {
		l := riches()
		wantNames(t, rows(l))
		Pick(l, n)
		for _, a := range l {
			for _, b := range l {
				Before(a, b)
			}
		}
		same(t, whole(l), whole(riches()))
	}
	l := riches()[:0] // all of it is spare
	wantOrder(t, l, nil)
	wantLive(t, l, "app", nil, nil)
	wantPick(t, l, 3)
	same(t, whole(l), whole(riches()))
}

// TestAnswersAreTheirOwn: what is done to what was handed in changes no answer.
func TestAnswersAreTheirOwn(t *testing.T) {
	l := riches()
	all, picked := rows(l), Pick(l, 3)
	smudge(l)
	wantNames(t, all)
	same(t, all, rows(riches()))
	same(t, picked, []string{"d", "b", "e"})
}

// TestAnswersAreNotKept: what is done to an answer changes neither what was handed
// in, nor another answer, nor what is answered then.
func TestAnswersAreNotKept(t *testing.T) {
	for i := range rows(riches()) {
		l := riches()
		first, second := rows(l), rows(l)
		smudge(first[i])
		same(t, whole(l), whole(riches()))
		same(t, second, rows(riches()))
		same(t, rows(l), second)
		for j := range first {
			if j != i {
				same(t, first[j], second[j])
			}
		}
	}
	l := riches()
	a, b := Pick(l, 3), Pick(l, 3)
	fill(a, "smudged")
	same(t, b, []string{"d", "b", "e"})
	same(t, Pick(l, 3), b)
	same(t, whole(l), whole(riches()))
}

// TestAnswersGrowApart: what is put behind one row comes into no other.
func TestAnswersGrowApart(t *testing.T) {
	l := riches()
	live, failed := Live(l, "app")
	_ = append(live, app("x", 0, 0), app("x", 0, 0), app("x", 0, 0))
	same(t, told(failed), []string{"b", "d"})
	_ = append(failed, app("x", 0, 0), app("x", 0, 0), app("x", 0, 0))
	same(t, told(live), []string{"a", "c", "e"})
	for _, all := range rows(l) {
		for i := range all {
			h := all[i].Hpa
			_ = append(h.Metrics, api.Metric{Name: "x"})
			_ = append(h.Past, api.Scaled{At: 1})
			_ = append(h.Up.Policies, api.Policy{Value: 1})
			_ = append(h.Down.Policies, api.Policy{Value: 1})
		}
	}
	same(t, whole(l), whole(riches()))
}

// TestOneObjectTwice: an object that stands twice in a row is told twice, each time
// in memory of its own.
func TestOneObjectTwice(t *testing.T) {
	o := rich("a", api.Ready, 5)
	for _, all := range rows([]api.Object{o, o})[:2] {
		smudge(all[:1:1])
		same(t, all[1], o)
	}
	same(t, o, rich("a", api.Ready, 5))
}
