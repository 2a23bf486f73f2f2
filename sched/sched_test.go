package sched

import (
	"fmt"
	"math"
	"math/rand"
	"reflect"
	"slices"
	"strings"
	"testing"

	"trimtab/api"
	"trimtab/room"
	"trimtab/score"
	"trimtab/store"
)

// ways are all ways; noWays are numbers of none.
var (
	ways   = []int{score.Spread, score.Pack, score.Even}
	noWays = []int{math.MinInt, math.MinInt + 1, -2, -1, 3, 4, api.Mille, 1 << 32, 1<<32 + 1, math.MaxInt - 1, math.MaxInt}
)

// noTicks are ticks at which nothing is done; ticks are such as there are.
var (
	noTicks = []int64{math.MinInt64, math.MinInt64 + 1, -api.MaxClock, -1, api.MaxClock + 1, math.MaxInt64 - 1, math.MaxInt64}
	ticks   = []int64{0, 1, 7, 1 << 32, api.MaxClock - 1, api.MaxClock}
)

// noPhases are numbers of no phase.
var noPhases = []int{math.MinInt, -1, 4, math.MaxInt}

// missing are names of nothing that is there: other ones, and texts that are none.
var missing = []string{"", "-", "x", "n", "n11", "N1", "n1 ", "n1\x00", "é", "\xff", strings.Repeat("n", 32), strings.Repeat("n", 33), strings.Repeat("n", 5000)}

// rising are names byte by byte, all of them such as may be.
var rising = []string{"0", "00", "10", "9", "a", "a-a", "a-b", "a0", "aa", "b", "z", "z-0", "zz"}

func same(t *testing.T, got, want any) {
	t.Helper()
	if !reflect.DeepEqual(got, want) {
		t.Fatalf("got %+v, want %+v", got, want)
	}
}

// node is a node of a size, with nothing else.
func node(name string, cpu, mem api.Milli) api.Object {
	return api.Object{Kind: api.KindNode, Name: name, Node: api.Node{Size: api.Resources{CPU: cpu, Mem: mem}}}
}

// waits is a Pending pod that asks for so much.
func waits(name string, since int64, cpu, mem api.Milli) api.Object {
	return api.Object{Kind: api.KindPod, Name: name, Pod: api.Pod{Owner: "app", Since: since, Ask: api.Resources{CPU: cpu, Mem: mem}}}
}

// on is a pod as it would be on a node, in a phase.
func on(o api.Object, node string, phase int) api.Object {
	o.Pod.Node, o.Pod.Phase = node, phase
	return o
}

// bound is pairs of a pod and its node.
func bound(pairs ...string) []Bind {
	var l []Bind
	for i := 0; i < len(pairs); i += 2 {
		l = append(l, Bind{pairs[i], pairs[i+1]})
	}
	return l
}

// P19.1 Plan

// wantPlan wants these binds of Plan, in order, and no error.
func wantPlan(t *testing.T, nodes, pods []api.Object, way int, want ...string) {
	t.Helper()
	if got, e := Plan(nodes, pods, way); !slices.Equal(got, bound(want...)) || e != api.OK {
		t.Fatalf("Plan of %d and %d by %d: %q, %d, want %q", len(nodes), len(pods), way, got, e, bound(want...))
	}
}

func TestPlanExample(t *testing.T) {
	for _, way := range ways {
		wantPlan(t, []api.Object{node("n1", 1000, 0)}, []api.Object{waits("a", 0, 600, 0), waits("b", 0, 600, 0)}, way, "a", "n1")
	}
}

func TestPlanOfNothing(t *testing.T) {
	nodes, pods := []api.Object{node("n1", 1000, 0)}, []api.Object{waits("a", 0, 600, 0)}
	for _, way := range ways {
		wantPlan(t, nil, nil, way)
		wantPlan(t, nodes, nil, way)
		wantPlan(t, nil, pods, way)
		wantPlan(t, nodes[:0], pods[:0], way)
		wantPlan(t, pods, nodes, way)
	}
}

// TestPlanByNoWay: whatever there is to bind.
func TestPlanByNoWay(t *testing.T) {
	nodes, pods := []api.Object{node("n1", 1000, 0)}, []api.Object{waits("a", 0, 600, 0)}
	for _, way := range noWays {
		for _, c := range [][2][]api.Object{{nodes, pods}, {nil, pods}, {nodes, nil}, {nil, nil}} {
			if got, e := Plan(c[0], c[1], way); len(got) != 0 || e != api.ErrArg {
				t.Fatalf("Plan by %d: %q, %d", way, got, e)
			}
		}
	}
}

// TestPlanByWays: each way leads elsewhere, by what is there behind the pods ahead.
func TestPlanByWays(t *testing.T) {
	nodes := []api.Object{node("n1", 1000, 1000), node("n2", 1000, 1000), node("n3", 1000, 1000)}
	pods := []api.Object{
		on(waits("x", 0, 500, 200), "n1", api.Ready), on(waits("y", 0, 200, 0), "n2", api.Bound),
		waits("a", 1, 200, 200), waits("b", 2, 200, 300), waits("c", 3, 100, 400), waits("d", 4, 300, 100),
	}
	// used there, behind each: 200, 200; 400, 300; 600, 600 (as good as n3, by a less name); 500, 300
	wantPlan(t, nodes, pods, score.Spread, "a", "n3", "b", "n2", "c", "n1", "d", "n3")
	// 700, 400; 900, 700; 300, 400 (n1 has too little left); 600, 500
	wantPlan(t, nodes, pods, score.Pack, "a", "n1", "b", "n1", "c", "n2", "d", "n2")
	// 200, 200; 400, 300 (as good as n3); 600, 600; 900, 700 (as good as n3)
	wantPlan(t, nodes, pods, score.Even, "a", "n3", "b", "n2", "c", "n1", "d", "n1")
}

// TestPlanBehindThoseAhead: each finds on its node what was bound there ahead of it.
func TestPlanBehindThoseAhead(t *testing.T) {
	nodes := []api.Object{node("n2", 1000, 900), node("n1", 1000, 900)}
	var pods []api.Object
	for _, name := range []string{"a", "b", "c", "d", "e", "f", "g"} {
		pods = append(pods, waits(name, 5, 300, 100))
	}
	turns := []string{"a", "n1", "b", "n2", "c", "n1", "d", "n2", "e", "n1", "f", "n2"}
	wantPlan(t, nodes, pods, score.Spread, turns...)
	wantPlan(t, nodes, pods, score.Pack, "a", "n1", "b", "n1", "c", "n1", "d", "n2", "e", "n2", "f", "n2")
	for i := range pods {
		pods[i].Pod.Ask = api.Resources{CPU: 100, Mem: 300} // of Mem there is room for three of them, too
	}
	wantPlan(t, nodes, pods, score.Spread, turns...)
}

// TestPlanOrder: rising by Since, then by names, in whatever order they stand.
func TestPlanOrder(t *testing.T) {
	var pods []api.Object
	var want []string
	for _, since := range []int64{math.MinInt64, math.MinInt64 + 1, -1, 0, 1, 9, 10, api.MaxClock, math.MaxInt64 - 1, math.MaxInt64} {
		for _, name := range slices.Concat([]string{"", "\x00"}, rising, []string{"é", "\xff", "\xff\x00"}) {
			pods = append(pods, waits(name, since, 1, 0))
			want = append(want, name, "n1")
		}
	}
	chance := rand.New(rand.NewSource(1))
	for _, many := range []int{1, 2, 13, 14, 40, len(pods)} {
		chance.Shuffle(len(pods), func(i, j int) { pods[i], pods[j] = pods[j], pods[i] })
		for _, way := range ways {
			wantPlan(t, []api.Object{node("n1", api.Milli(many), 0)}, pods, way, want[:2*many]...)
		}
	}
}

// TestPlanPassesOver: one that fits nowhere holds up none that comes behind it.
func TestPlanPassesOver(t *testing.T) {
	nodes := []api.Object{node("n1", 1000, 500), node("n2", 800, 500)}
	pods := []api.Object{
		waits("a", 1, 1001, 0), waits("b", 1, 1000, 501), waits("c", 2, 900, 100), waits("d", 3, 900, 100),
		waits("e", 4, 800, 400), waits("f", 5, 101, 0), waits("g", 5, 100, 400), waits("h", 6, 1, 0), waits("i", 6, 0, 101), waits("j", 7, 0, 100),
	}
	for _, way := range ways {
		wantPlan(t, nodes, pods, way, "c", "n1", "e", "n2", "g", "n1", "j", "n2")
	}
}

// TestPlanOfPhases: the Pending ones are bound, the Bound and the Ready ones are
// there, and no others count, also such as may not be.
func TestPlanOfPhases(t *testing.T) {
	nodes := []api.Object{node("n1", 1000, 0)}
	b := waits("b", 5, 600, 0)
	for _, way := range ways {
		for _, phase := range append([]int{api.Failed}, noPhases...) {
			for _, where := range []string{"", "n1", "x"} {
				wantPlan(t, nodes, []api.Object{on(waits("a", 0, 600, 0), where, phase), b}, way, "b", "n1")
			}
		}
		for _, phase := range []int{api.Bound, api.Ready} {
			wantPlan(t, nodes, []api.Object{b, on(waits("a", 9, 400, 0), "n1", phase)}, way, "b", "n1")
			wantPlan(t, nodes, []api.Object{b, on(waits("a", 9, 401, 0), "n1", phase)}, way)
			wantPlan(t, nodes, []api.Object{b, on(waits("a", 9, 401, 0), "x", phase)}, way, "b", "n1")
			wantPlan(t, nodes, []api.Object{b, on(waits("a", 9, 401, 0), "", phase)}, way, "b", "n1")
		}
		// a Pending one is nowhere, whatever its Node is
		wantPlan(t, nodes, []api.Object{on(waits("a", 0, 600, 0), "n1", api.Pending), b}, way, "a", "n1")
		wantPlan(t, nodes, []api.Object{on(waits("c", 5, 600, 0), "n1", api.Pending), b}, way, "b", "n1")
		wantPlan(t, nodes, []api.Object{on(waits("a", 0, 600, 0), "x", api.Pending)}, way, "a", "n1")
	}
}

// TestPlanOfKinds: objects of other kinds are no nodes and no pods, whatever stands
// in them.
func TestPlanOfKinds(t *testing.T) {
	for _, way := range ways {
		for _, kind := range []int{math.MinInt, -1, api.KindWorkload, api.KindPod, api.KindNode, api.KindGroup, api.KindHpa, api.Kinds, math.MaxInt} {
			n, p := node("n0", 600, 0), waits("a", 0, 600, 0)
			n.Kind, p.Kind = kind, kind
			there := []string{"b", "n1"}
			if kind == api.KindNode {
				there = []string{"b", "n0"}
			}
			wantPlan(t, []api.Object{n, node("n1", 600, 0)}, []api.Object{waits("b", 5, 600, 0)}, way, there...)
			there = []string{"b", "n1"}
			if kind == api.KindPod {
				there = []string{"a", "n1"}
			}
			wantPlan(t, []api.Object{node("n1", 600, 0)}, []api.Object{p, waits("b", 5, 600, 0)}, way, there...)
			p = on(p, "n1", api.Ready)
			if kind == api.KindPod {
				there = nil
			}
			wantPlan(t, []api.Object{node("n1", 600, 0)}, []api.Object{p, waits("b", 5, 600, 0)}, way, there...)
		}
	}
}

// TestPlanOfMisfits: a node that has enough left isn't one for each pod.
func TestPlanOfMisfits(t *testing.T) {
	closed, tainted, zoned := node("n1", 9000, 0), node("n2", 3000, 0), node("n3", 1000, 0)
	closed.Node.Closed = true
	tainted.Node.Taints = []api.Label{{Key: "gpu"}}
	zoned.Node.Labels = []api.Label{{Key: "zone", Value: "a"}}
	nodes := []api.Object{closed, tainted, zoned}
	plain, tolerant, asking, picky := waits("a", 1, 100, 0), waits("b", 2, 1000, 0), waits("c", 3, 100, 0), waits("d", 4, 100, 0)
	tolerant.Pod.Tolerate = []api.Label{{Key: "gpu"}}
	asking.Pod.Select = []api.Require{{Key: "zone", Value: "a"}}
	picky.Pod.Select = []api.Require{{Key: "zone", Value: "b"}}
	pods := []api.Object{plain, tolerant, asking, picky}
	for _, way := range ways {
		wantPlan(t, nodes, pods, way, "a", "n3", "b", "n2", "c", "n3")
		wantPlan(t, nodes[:2], pods, way, "b", "n2")
		wantPlan(t, nodes[:1], pods, way)
	}
}

// TestPlanOfAnOverfullNode: nothing is bound there, also if it asks for nothing more.
func TestPlanOfAnOverfullNode(t *testing.T) {
	nodes := []api.Object{node("n1", 1000, 500), node("n2", 1000, 500)}
	pods := []api.Object{on(waits("x", 0, 1001, 0), "n1", api.Bound), waits("a", 1, 0, 400), waits("b", 2, 0, 400), waits("c", 3, 700, 0), waits("d", 4, 700, 0)}
	for _, way := range ways {
		wantPlan(t, nodes, pods, way, "a", "n2", "c", "n2")
	}
}

// TestPlanOfOneName: each pod of a name is one of its own.
func TestPlanOfOneName(t *testing.T) {
	nodes := []api.Object{node("n1", 1000, 0)}
	pods := []api.Object{waits("a", 2, 300, 0), waits("a", 1, 600, 0), waits("a", 2, 100, 0), on(waits("a", 0, 50, 0), "n1", api.Ready)}
	for _, way := range ways {
		wantPlan(t, nodes, pods, way, "a", "n1", "a", "n1")
		wantPlan(t, nodes, []api.Object{waits("n1", 2, 300, 0)}, way, "n1", "n1")
		wantPlan(t, []api.Object{node("", 1000, 0)}, []api.Object{waits("", 0, 300, 0)}, way, "", "")
	}
}

// TestPlanOfOneNameAndSince: such pods go as they stand, however many they are.
func TestPlanOfOneNameAndSince(t *testing.T) {
	var nodes, pods []api.Object
	var want [3][]string
	for i := range 90 {
		where := fmt.Sprintf("n%02d", i*7%90)
		n, p := node(where, 1000, 0), waits("a", int64(i%3), 300, 0)
		n.Node.Labels = []api.Label{{Key: "zone", Value: where}}
		p.Pod.Select = []api.Require{{Key: "zone", Value: where}}
		nodes, pods = append(nodes, n), append(pods, p)
		want[i%3] = append(want[i%3], "a", where)
	}
	for _, way := range ways {
		wantPlan(t, nodes, pods, way, slices.Concat(want[:]...)...)
	}
}

// TestPlanAtTheEnds: sizes and asks at the ends of their type, also such as may not be.
func TestPlanAtTheEnds(t *testing.T) {
	const most = math.MaxInt64
	for _, way := range ways {
		nodes := []api.Object{node("n1", most, most)}
		wantPlan(t, nodes, []api.Object{waits("a", 0, most, 0), waits("b", 0, 1, 0), waits("c", 0, 0, most), waits("d", 0, 0, 1), waits("e", 0, 0, 0)},
			way, "a", "n1", "c", "n1", "e", "n1")
		wantPlan(t, nodes, []api.Object{on(waits("x", 0, most, 0), "n1", api.Ready), on(waits("y", 0, most, 0), "n1", api.Bound), waits("a", 0, 1, 1)}, way)
		wantPlan(t, []api.Object{node("n1", api.MaxMilli, 0)}, []api.Object{waits("a", 0, api.MaxMilli, 0), waits("b", 0, 1, 0)}, way, "a", "n1")
		wantPlan(t, []api.Object{node("n1", api.MaxMilli-1, 0)}, []api.Object{waits("a", 0, api.MaxMilli, 0), waits("b", 0, 1, 0)}, way, "b", "n1")
		wantPlan(t, []api.Object{node("n1", -1, 0), node("n2", math.MinInt64, 0)}, []api.Object{waits("a", 0, 0, 0), waits("b", 0, -1, 0)}, way, "b", "n1")
	}
}

// first is the place of the Pending pod of a row that goes ahead of all others, but
// for those that were seen.
func first(pods []api.Object, seen []int) int {
	best := -1
	for i, o := range pods {
		if o.Kind != api.KindPod || o.Pod.Phase != api.Pending || slices.Contains(seen, i) {
			continue
		}
		if best < 0 || o.Pod.Since < pods[best].Pod.Since || o.Pod.Since == pods[best].Pod.Since && o.Name < pods[best].Name {
			best = i
		}
	}
	return best
}

// slow is what Plan answers, by the chapter's words: each pod that is bound is so in
// the row, and all rooms are made anew for the next one. The second answer is that row.
func slow(nodes, pods []api.Object, way int) ([]Bind, []api.Object) {
	pods = slices.Clone(pods)
	var l []Bind
	var seen []int
	for i := first(pods, seen); i >= 0; i = first(pods, seen) {
		seen = append(seen, i)
		if names := score.Rank(room.Rooms(nodes, pods), pods[i].Pod, way); len(names) > 0 {
			l = append(l, Bind{pods[i].Name, names[0]})
			pods[i] = on(pods[i], names[0], api.Bound)
		}
	}
	return l, pods
}

// wantRest wants that no node has less than is asked for on it, and that no Pending
// pod fits anywhere.
func wantRest(t *testing.T, nodes, pods []api.Object) {
	t.Helper()
	for _, r := range room.Rooms(nodes, pods) {
		if r.Used.CPU > r.Node.Size.CPU || r.Used.Mem > r.Node.Size.Mem {
			t.Fatalf("overfull: %+v", r)
		}
		for _, o := range pods {
			if o.Kind == api.KindPod && o.Pod.Phase == api.Pending && r.Fits(o.Pod) {
				t.Fatalf("%q still fits in %+v", o.Name, r)
			}
		}
	}
}

// nodesByChance are some nodes that may be, rising by names.
func nodesByChance(chance *rand.Rand) []api.Object {
	var l []api.Object
	for i := range chance.Intn(6) {
		n := node(fmt.Sprintf("n%d", i), 1+api.Milli(chance.Intn(20)), api.Milli(chance.Intn(12)))
		n.Node.Closed = chance.Intn(8) == 0
		if chance.Intn(4) == 0 {
			n.Node.Taints = []api.Label{{Key: "gpu"}}
		}
		if chance.Intn(2) == 0 {
			n.Node.Labels = []api.Label{{Key: "zone", Value: "a"}}
		}
		l = append(l, n)
	}
	return l
}

// podsByChance are some pods that may be, rising by names; those that are Bound or
// Ready fit on their nodes.
func podsByChance(chance *rand.Rand, nodes []api.Object) []api.Object {
	var l []api.Object
	for i := range chance.Intn(24) {
		p := waits(fmt.Sprintf("p%02d", i), int64(chance.Intn(4)), 1+api.Milli(chance.Intn(8)), api.Milli(chance.Intn(5)))
		if chance.Intn(4) == 0 {
			p.Pod.Tolerate = []api.Label{{Key: "gpu"}}
		}
		if chance.Intn(4) == 0 {
			p.Pod.Select = []api.Require{{Key: "zone", Op: chance.Intn(4)}}
			if p.Pod.Select[0].Op <= api.Isnt {
				p.Pod.Select[0].Value = "a"
			}
		}
		if chance.Intn(2) == 0 {
			l = append(l, settled(chance, p, nodes, l))
		} else {
			l = append(l, p)
		}
	}
	return l
}

// settled is a pod on a node in which it fits beside others; of none, one that is
// Failed.
func settled(chance *rand.Rand, p api.Object, nodes, beside []api.Object) api.Object {
	if l := score.Rank(room.Rooms(nodes, beside), p.Pod, score.Even); len(l) > 0 && chance.Intn(4) > 0 {
		return on(p, l[chance.Intn(len(l))], api.Bound+chance.Intn(2))
	}
	return on(p, []string{"", "n0", "x"}[chance.Intn(3)], api.Failed)
}

func TestPlanByChance(t *testing.T) {
	chance := rand.New(rand.NewSource(2))
	for range 3000 {
		nodes := nodesByChance(chance)
		pods := podsByChance(chance, nodes)
		for _, way := range ways {
			want, behind := slow(nodes, pods, way)
			if got, e := Plan(nodes, pods, way); !slices.Equal(got, want) || e != api.OK {
				t.Fatalf("Plan by %d of %+v, %+v: %q, %d, want %q", way, nodes, pods, got, e, want)
			}
			wantRest(t, nodes, behind)
			wantPlan(t, nodes, behind, way)
		}
		chance.Shuffle(len(nodes), func(i, j int) { nodes[i], nodes[j] = nodes[j], nodes[i] })
		chance.Shuffle(len(pods), func(i, j int) { pods[i], pods[j] = pods[j], pods[i] })
		want, _ := slow(nodes, pods, score.Pack)
		got, _ := Plan(nodes, pods, score.Pack)
		same(t, got, want)
	}
}

// TestPlanOfMany: more pods and nodes than a store holds.
func TestPlanOfMany(t *testing.T) {
	var nodes, pods []api.Object
	var want []string
	for i := range 2000 {
		pods = append(pods, waits(fmt.Sprintf("p%04d", i), 5, 100, 1))
		if i < 1800 {
			want = append(want, fmt.Sprintf("p%04d", i), fmt.Sprintf("n%04d", i/9))
		}
	}
	for i := range 200 {
		nodes = append(nodes, node(fmt.Sprintf("n%04d", i), 1000, 9))
	}
	wantPlan(t, nodes, pods, score.Pack, want...)
}

// P19.1 Pass, Evict, Drain

// filled is a full store of these objects.
func filled(t *testing.T, l ...api.Object) *store.Store {
	t.Helper()
	s, _ := store.New(len(l))
	for _, o := range l {
		if _, e := s.Create(o); e != api.OK {
			t.Fatalf("Create %+v: %d", o, e)
		}
	}
	return s
}

// held is all that a store has, by kinds and names.
func held(s *store.Store) []api.Object {
	var l []api.Object
	for kind := range api.Kinds {
		l = slices.AppendSeq(l, s.List(kind))
	}
	return l
}

// of is all of a kind, in a row.
func of(s *store.Store, kind int) []api.Object { return slices.Collect(s.List(kind)) }

// updated is the events of pods that were updated one behind the other, behind a
// version.
func updated(before uint64, pods ...string) []api.Event {
	var l []api.Event
	for i, name := range pods {
		l = append(l, api.Event{Type: api.Updated, Kind: api.KindPod, Name: name, Version: before + uint64(i) + 1})
	}
	return l
}

// wantPass wants a pass by which these pods, in pairs with their nodes, are bound one
// behind the other, and of which nothing else is to be seen.
func wantPass(t *testing.T, s *store.Store, now int64, way int, pairs ...string) {
	t.Helper()
	before, want, names := s.Now(), held(s), []string(nil)
	for i, b := range bound(pairs...) {
		at := slices.IndexFunc(want, func(o api.Object) bool { return o.Kind == api.KindPod && o.Name == b.Pod })
		want[at] = on(want[at], b.Node, api.Bound)
		want[at].Pod.Since, want[at].Version = now, before+uint64(i)+1
		names = append(names, b.Pod)
	}
	got, e := Pass(s, now, way)
	if !slices.Equal(got, updated(before, names...)) || e != api.OK {
		t.Fatalf("Pass at %d by %d: %+v, %d, want %q", now, way, got, e, names)
	}
	same(t, held(s), want)
	since, e := s.Since(before)
	same(t, since, got)
	same(t, e, api.OK)
}

// rich is a pod with something in each field but Node, Phase and Since.
func rich(name string, cpu api.Milli) api.Object {
	return api.Object{Kind: api.KindPod, Name: name, Pod: api.Pod{
		Owner:    "web",
		Ask:      api.Resources{CPU: cpu, Mem: 5},
		Labels:   []api.Label{{Key: "app", Value: "web"}, {Key: "zone", Value: "a"}},
		Select:   []api.Require{{Key: "disk", Value: "hdd", Op: api.Isnt}},
		Tolerate: []api.Label{{Key: "gpu"}},
		Warm:     7,
	}}
}

// others are objects of which no scheduler changes any.
func others() []api.Object {
	return []api.Object{
		{Kind: api.KindWorkload, Name: "app", Workload: api.Workload{Replicas: 9, Ask: api.Resources{CPU: 1}}},
		{Kind: api.KindGroup, Name: "n1", Group: api.Group{Max: 5, Size: api.Resources{CPU: 9000}}},
		{Kind: api.KindHpa, Name: "a", Hpa: api.Hpa{Target: "app", Min: 1, Max: 9, Metrics: []api.Metric{{Kind: api.ByResource, Name: "cpu", Target: 500}}}},
	}
}

func TestPassExample(t *testing.T) {
	for _, way := range ways {
		s := filled(t, node("n1", 1000, 0), waits("a", 0, 600, 0), waits("b", 0, 600, 0))
		wantPass(t, s, 7, way, "a", "n1")
		wantPass(t, s, 7, way)
		wantPass(t, s, 8, way)
	}
}

// TestPassByWays: each way leads elsewhere.
func TestPassByWays(t *testing.T) {
	l := append(others(), node("n1", 1000, 1000), node("n2", 1000, 1000), node("n3", 1000, 1000), on(rich("x", 500), "n1", api.Ready),
		rich("c", 200), on(rich("f", 1), "n3", api.Failed), rich("b", 100), rich("a", 900))
	for i, want := range [][]string{
		{"a", "n2", "b", "n3", "c", "n3"},
		{"a", "n2", "b", "n2", "c", "n1"},
		{"a", "n2", "b", "n3", "c", "n3"},
	} {
		s := filled(t, l...)
		wantPass(t, s, 9, ways[i], want...)
		wantPass(t, s, 9, ways[i])
	}
}

// TestPassOrder: by Since, then by names, whichever came into the store first.
func TestPassOrder(t *testing.T) {
	l := []api.Object{node("n1", 100, 0)}
	var want []string
	for since := range int64(3) {
		for _, name := range rising {
			name = fmt.Sprintf("%d%s", 2-since, name) // names alone would have them the other way round
			l = append(l, waits(name, since*(api.MaxClock/2), 1, 0))
			want = append(want, name, "n1")
		}
	}
	rand.New(rand.NewSource(3)).Shuffle(len(l), func(i, j int) { l[i], l[j] = l[j], l[i] })
	for _, way := range ways {
		wantPass(t, filled(t, l...), 0, way, want...)
	}
}

// TestPassTicks: the first and the last one too, also ahead of a pod's Since.
func TestPassTicks(t *testing.T) {
	for _, now := range ticks {
		for _, since := range ticks {
			s := filled(t, node("n1", 1000, 0), waits("a", since, 600, 0))
			wantPass(t, s, now, score.Even, "a", "n1")
		}
	}
}

// wantNoPass wants ErrArg of a pass, and nothing beside it.
func wantNoPass(t *testing.T, s *store.Store, now int64, way int) {
	t.Helper()
	before, l := s.Now(), held(s)
	if got, e := Pass(s, now, way); len(got) != 0 || e != api.ErrArg {
		t.Fatalf("Pass at %d by %d: %+v, %d", now, way, got, e)
	}
	same(t, s.Now(), before)
	same(t, held(s), l)
}

func TestPassErrors(t *testing.T) {
	s := filled(t, node("n1", 1000, 0), waits("a", 5, 600, 0))
	empty, _ := store.New(1)
	for _, way := range append(slices.Clone(ways), noWays...) {
		for _, now := range append(slices.Clone(ticks), noTicks...) {
			wantNoPass(t, nil, now, way)
			if slices.Contains(noWays, way) || slices.Contains(noTicks, now) {
				wantNoPass(t, s, now, way)
				wantNoPass(t, empty, now, way)
			} else {
				wantPass(t, empty, now, way)
			}
		}
	}
	wantPass(t, s, 5, score.Pack, "a", "n1")
}

// TestPassOfAFullStore: all pods of the greatest store, whatever became of it ahead.
func TestPassOfAFullStore(t *testing.T) {
	l := []api.Object{node("n1", api.MaxMilli, api.MaxMilli)}
	var pairs, names []string
	for i := range api.MaxObjects - 1 {
		name := fmt.Sprintf("p%03d", i)
		l = append(l, waits(name, 5, 1, 1))
		pairs, names = append(pairs, name, "n1"), append(names, name)
	}
	s := filled(t, l...)
	for now := range int64(5) {
		wantPass(t, s, now, int(now)%3, pairs...)
		before := s.Now()
		wantDrain(t, s, "n1", now, names...)
		same(t, s.Now(), before+uint64(len(names)))
	}
}

// TestPassByChance: it does what Plan tells of what is stored.
func TestPassByChance(t *testing.T) {
	chance := rand.New(rand.NewSource(4))
	for range 1000 {
		nodes := nodesByChance(chance)
		l := slices.Concat(others(), nodes, podsByChance(chance, nodes))
		chance.Shuffle(len(l), func(i, j int) { l[i], l[j] = l[j], l[i] })
		for _, way := range ways {
			s, now := filled(t, l...), int64(chance.Intn(9))
			binds, _ := slow(of(s, api.KindNode), of(s, api.KindPod), way)
			var pairs []string
			for _, b := range binds {
				pairs = append(pairs, b.Pod, b.Node)
			}
			wantPass(t, s, now, way, pairs...)
			wantRest(t, of(s, api.KindNode), of(s, api.KindPod))
			for _, again := range ways {
				wantPass(t, s, now+1, again)
			}
		}
	}
}

// wantEvict wants that a pod is evicted, and nothing else.
func wantEvict(t *testing.T, s *store.Store, pod string, now int64) {
	t.Helper()
	before := s.Now()
	want, _ := s.Get(api.KindPod, pod)
	want = on(want, "", api.Pending)
	want.Pod.Since, want.Version = now, before+1
	if e := Evict(s, pod, now); e != api.OK {
		t.Fatalf("Evict %q at %d: %d", pod, now, e)
	}
	got, _ := s.Get(api.KindPod, pod)
	same(t, got, want)
	events, e := s.Since(before)
	same(t, events, updated(before, pod))
	same(t, e, api.OK)
}

// wantNoEvict wants an error, and that nothing changes.
func wantNoEvict(t *testing.T, s *store.Store, pod string, now int64, want api.Errno) {
	t.Helper()
	before, l := s.Now(), held(s)
	if e := Evict(s, pod, now); e != want {
		t.Fatalf("Evict %q at %d: %d, want %d", pod, now, e, want)
	}
	same(t, s.Now(), before)
	same(t, held(s), l)
}

// TestEvictOfPhases: Bound and Ready ones, on whatever node, at whatever tick.
func TestEvictOfPhases(t *testing.T) {
	for _, now := range ticks {
		for _, where := range []string{"n1", "x"} {
			for _, phase := range []int{api.Bound, api.Ready} {
				p := rich("a", 600)
				p.Pod.Since = 7
				s := filled(t, append(others(), node("n1", 1000, 500), on(p, where, phase), on(rich("b", 300), "n1", phase))...)
				wantEvict(t, s, "a", now)
				wantNoEvict(t, s, "a", now, api.ErrState)
			}
		}
		s := filled(t, rich("a", 600), on(rich("b", 600), "", api.Failed), on(rich("c", 600), "n1", api.Failed), node("n1", 1000, 0))
		for _, name := range []string{"a", "b", "c"} {
			wantNoEvict(t, s, name, now, api.ErrState)
		}
	}
}

// TestEvictErrors: ErrArg ahead of ErrNone ahead of ErrState.
func TestEvictErrors(t *testing.T) {
	s := filled(t, append(others(), node("n1", 1000, 0), on(rich("p", 600), "n1", api.Ready), rich("q", 600))...)
	for _, name := range append([]string{"n1", "app", "a", "p0"}, missing...) {
		wantNoEvict(t, s, name, 5, api.ErrNone)
		for _, now := range noTicks {
			wantNoEvict(t, s, name, now, api.ErrArg)
			wantNoEvict(t, nil, name, now, api.ErrArg)
		}
		wantNoEvict(t, nil, name, 5, api.ErrArg)
	}
	for _, now := range noTicks {
		wantNoEvict(t, s, "p", now, api.ErrArg)
		wantNoEvict(t, s, "q", now, api.ErrArg)
	}
	wantEvict(t, s, "p", 5)
}

// wantDrain wants that these pods are evicted, one behind the other, and nothing else.
func wantDrain(t *testing.T, s *store.Store, name string, now int64, pods ...string) {
	t.Helper()
	before, want := s.Now(), held(s)
	for i, o := range want {
		if at := slices.Index(pods, o.Name); o.Kind == api.KindPod && at >= 0 {
			want[i] = on(o, "", api.Pending)
			want[i].Pod.Since, want[i].Version = now, before+uint64(at)+1
		}
	}
	if got, e := Drain(s, name, now); got != len(pods) || e != api.OK {
		t.Fatalf("Drain %q at %d: %d, %d, want %d", name, now, got, e, len(pods))
	}
	same(t, held(s), want)
	events, e := s.Since(before)
	same(t, events, updated(before, pods...))
	same(t, e, api.OK)
}

// wantNoDrain wants an error, and nothing beside it.
func wantNoDrain(t *testing.T, s *store.Store, name string, now int64, want api.Errno) {
	t.Helper()
	before, l := s.Now(), held(s)
	if got, e := Drain(s, name, now); got != 0 || e != want {
		t.Fatalf("Drain %q at %d: %d, %d, want %d", name, now, got, e, want)
	}
	same(t, s.Now(), before)
	same(t, held(s), l)
}

// crowd is pods of all phases on a node, and some beside them: of each name one.
func crowd(where string) []api.Object {
	var l []api.Object
	for i, name := range rising {
		p := rich(name, 10)
		p.Pod.Since = int64(len(rising) - i) // the last one is the eldest
		l = append(l, on(p, where, api.Bound+i%2))
	}
	return append(l, rich("p0", 10), on(rich("p1", 10), "x", api.Bound), on(rich("p2", 10), "n2", api.Ready),
		on(rich("p3", 10), where, api.Failed), on(rich("p4", 10), "", api.Failed), on(rich("p5", 10), where+"0", api.Ready))
}

// TestDrain: its Bound and Ready pods, rising by names, also if it is closed, too
// small, or elsewhere.
func TestDrain(t *testing.T) {
	closed, small, labelled := node("n1", 1000, 500), node("n1", 1, 0), node("n1", 1000, 500)
	closed.Node.Closed = true
	labelled.Node.Taints, labelled.Node.Labels = []api.Label{{Key: "other"}}, []api.Label{{Key: "disk", Value: "hdd"}}
	for _, now := range ticks {
		for _, n := range []api.Object{node("n1", 1000, 500), closed, small, labelled} {
			l := append(slices.Concat(others(), crowd("n1")), n, node("n2", 1000, 500))
			rand.New(rand.NewSource(now)).Shuffle(len(l), func(i, j int) { l[i], l[j] = l[j], l[i] })
			s := filled(t, l...)
			wantDrain(t, s, "n1", now, rising...)
			wantDrain(t, s, "n1", now)
			wantDrain(t, s, "n2", now, "p2")
			wantDrain(t, s, "n2", now)
		}
	}
}

// TestDrainErrors: ErrArg ahead of ErrNone, also of a node that isn't there and has
// pods.
func TestDrainErrors(t *testing.T) {
	s := filled(t, append(slices.Concat(others(), crowd("x")), node("n1", 1000, 500), on(rich("n", 10), "n1", api.Ready))...)
	for _, name := range append([]string{"app", "a", "x0"}, missing...) {
		wantNoDrain(t, s, name, 5, api.ErrNone)
		for _, now := range noTicks {
			wantNoDrain(t, s, name, now, api.ErrArg)
			wantNoDrain(t, nil, name, now, api.ErrArg)
		}
		wantNoDrain(t, nil, name, 5, api.ErrArg)
	}
	for _, now := range noTicks {
		wantNoDrain(t, s, "n1", now, api.ErrArg)
	}
	wantNoDrain(t, nil, "n1", 5, api.ErrArg)
	wantDrain(t, s, "n1", 5, "n")
}

// TestEvictedPodsWaitAgain: behind those that wait longer.
func TestEvictedPodsWaitAgain(t *testing.T) {
	s := filled(t, node("n1", 1000, 0), node("n2", 1000, 0), waits("a", 1, 500, 0), waits("b", 2, 500, 0), waits("c", 3, 500, 0), waits("d", 4, 600, 0), waits("e", 5, 500, 0))
	wantPass(t, s, 6, score.Spread, "a", "n1", "b", "n2", "c", "n1", "e", "n2")
	wantEvict(t, s, "e", 8)
	wantDrain(t, s, "n1", 7, "a", "c")
	wantPass(t, s, 9, score.Spread, "d", "n1", "a", "n2")
	wantDrain(t, s, "n1", 9, "d")
	wantPass(t, s, 9, score.Spread, "c", "n1", "e", "n1")
}

// P19.2

// spared is a row with spare room that has another one in it.
func spared[T any](spare T, l ...T) []T { return append(slices.Clone(l), spare)[:len(l)] }

// rows are rows of nodes and of pods, and rows in them, all with spare room; each
// time the same in memory of their own.
func rows() (nodes, pods []api.Object) {
	n, p := node("n2", 1000, 500), rich("b", 300)
	n.Node.Labels = spared(api.Label{Key: "zone", Value: "b"}, api.Label{Key: "zone", Value: "a"})
	n.Node.Taints = spared(api.Label{Key: "disk"}, api.Label{Key: "gpu"})
	p.Pod.Labels = spared(api.Label{Key: "app"}, p.Pod.Labels...)
	p.Pod.Select = spared(api.Require{Key: "disk"}, p.Pod.Select...)
	p.Pod.Tolerate = spared(api.Label{Key: "disk"}, p.Pod.Tolerate...)
	nodes = spared(node("n0", 9000, 9000), n, node("n1", 700, 100))
	pods = spared(waits("0", 0, 1, 0), on(rich("c", 600), "n2", api.Ready), p, waits("a", 0, 500, 0), waits("d", 0, 100, 0))
	return nodes, pods
}

// whole is all of a row, and of its rows, with all spare room.
func whole(l []api.Object) []api.Object {
	l = slices.Clone(l[:cap(l)])
	for i := range l {
		n, p := &l[i].Node, &l[i].Pod
		n.Labels, n.Taints = n.Labels[:cap(n.Labels)], n.Taints[:cap(n.Taints)]
		p.Labels, p.Select, p.Tolerate = p.Labels[:cap(p.Labels)], p.Select[:cap(p.Select)], p.Tolerate[:cap(p.Tolerate)]
	}
	return l
}

// TestNothingIsChanged: what is handed in stays, its spare room too.
func TestNothingIsChanged(t *testing.T) {
	nodes, pods := rows()
	wantNodes, wantPods := rows()
	for _, way := range append(slices.Clone(ways), noWays...) {
		Plan(nodes, pods, way)
		Plan(nodes[:0], pods, way)
		Plan(nodes, pods[:0], way)
		same(t, whole(nodes), whole(wantNodes))
		same(t, whole(pods), whole(wantPods))
	}
	wantPlan(t, nodes, pods, score.Pack, "a", "n1", "b", "n2", "d", "n1")
}

// TestAnswersAreTheirOwn: what is done to what was handed in, or to an answer, changes
// no other answer, and nothing that is answered then.
func TestAnswersAreTheirOwn(t *testing.T) {
	nodes, pods := rows()
	want := bound("a", "n1", "b", "n2", "d", "n1")
	first, _ := Plan(nodes, pods, score.Pack)
	second, _ := Plan(nodes, pods, score.Pack)
	for i := range first[:cap(first)] {
		first[:cap(first)][i] = Bind{"smudged", "smudged"}
	}
	same(t, second, want)
	wantPlan(t, nodes, pods, score.Pack, "a", "n1", "b", "n2", "d", "n1")
	for i := range nodes {
		nodes[i] = node("smudged", 1, 0)
	}
	for i := range pods {
		pods[i] = waits("smudged", 0, 1, 0)
	}
	same(t, second, want)
	nodes, pods = rows()
	wantPlan(t, nodes, pods, score.Pack, "a", "n1", "b", "n2", "d", "n1")
}

// TestEventsAreTheirOwn: the store's events stay, whatever is done to an answer.
func TestEventsAreTheirOwn(t *testing.T) {
	s := filled(t, node("n1", 1000, 0), waits("a", 0, 300, 0), waits("b", 0, 300, 0))
	l, _ := Pass(s, 5, score.Spread)
	for i := range l[:cap(l)] {
		l[:cap(l)][i] = api.Event{Name: "smudged"}
	}
	got, e := s.Since(3)
	same(t, got, updated(3, "a", "b"))
	same(t, e, api.OK)
}

// TestStoresAreApart: a copy isn't changed by what is done to the other one.
func TestStoresAreApart(t *testing.T) {
	s := filled(t, node("n1", 1000, 500), rich("a", 300), on(rich("b", 300), "n1", api.Ready))
	c := s.Copy()
	before := held(c)
	wantPass(t, s, 5, score.Spread, "a", "n1")
	wantEvict(t, s, "b", 6)
	wantDrain(t, s, "n1", 7, "a")
	same(t, held(c), before)
	wantPass(t, c, 5, score.Spread, "a", "n1")
}
