package replica

import (
	"fmt"
	"math"
	"math/rand"
	"reflect"
	"slices"
	"strings"
	"testing"

	"trimtab/api"
	"trimtab/store"
	"trimtab/valid"
)

// noNames are texts that are no names.
var noNames = []string{"", "-", "-a", "a-", "A", "a b", "a_b", "a\x00", "é", "a\xff", strings.Repeat("a", 33), strings.Repeat("a", 5000)}

// otherKinds are all kinds but a workload's, and numbers that are none.
var otherKinds = []int{math.MinInt, -2, -1, api.KindPod, api.KindNode, api.KindGroup, api.KindHpa, api.Kinds, 6, math.MaxInt}

// noTicks are ticks at which there is no pass.
var noTicks = []int64{math.MinInt64, math.MinInt64 + 1, -api.MaxClock, -2, -1, api.MaxClock + 1, api.MaxClock + 2, math.MaxInt64}

func same(t *testing.T, got, want any) {
	t.Helper()
	if !reflect.DeepEqual(got, want) {
		t.Fatalf("got %+v, want %+v", got, want)
	}
}

// load is a workload of so many replicas with something in each field.
func load(name string, replicas int) api.Object {
	return api.Object{Kind: api.KindWorkload, Name: name, Workload: api.Workload{
		Replicas: replicas,
		Ask:      api.Resources{CPU: 1000, Mem: 5},
		Labels:   row(api.Label{Key: "spare"}, api.Label{Key: "app", Value: name}, api.Label{Key: "zone", Value: "a"}),
		Select:   row(api.Require{Key: "spare"}, api.Require{Key: "disk", Value: "ssd", Op: api.Isnt}),
		Tolerate: row(api.Label{Key: "spare"}, api.Label{Key: "gpu"}),
		Warm:     7,
	}}
}

// row is a row of its own memory, with spare room that has something in it.
func row[T any](spare T, l ...T) []T {
	return append(slices.Clone(l), spare, spare)[: len(l) : len(l)+2]
}

// owned is a pod of an owner, that may be, of each phase that is one.
func owned(owner, name string, phase int, since int64) api.Object {
	p := api.Pod{Owner: owner, Phase: phase, Since: since, Ask: api.Resources{CPU: 9}}
	if phase != api.Pending {
		p.Node = "n1"
	}
	return api.Object{Kind: api.KindPod, Name: name, Pod: p}
}

// app is a pod of the owner app.
func app(name string, phase int, since int64) api.Object { return owned("app", name, phase, since) }

// numbered are names of an owner's pods with these numbers.
func numbered(owner string, numbers ...int) []string {
	var l []string
	for _, n := range numbers {
		l = append(l, fmt.Sprintf("%s-%04d", owner, n))
	}
	return l
}

// count is the numbers from one to another, both of them too.
func count(from, to int) []int {
	var l []int
	for n := from; n <= to; n++ {
		l = append(l, n)
	}
	return l
}

// ready is an owner's Ready pods with these numbers.
func ready(owner string, numbers ...int) []api.Object {
	var l []api.Object
	for _, name := range numbered(owner, numbers...) {
		l = append(l, owned(owner, name, api.Ready, 5))
	}
	return l
}

// P16.1 Plan

// wantPlan wants these names of Plan, in order.
func wantPlan(t *testing.T, w api.Object, l []api.Object, create, remove []string) {
	t.Helper()
	gotCreate, gotRemove := Plan(w, l)
	if !slices.Equal(gotCreate, create) || !slices.Equal(gotRemove, remove) {
		t.Fatalf("Plan(%q of %d, %d objects): %q, %q, want %q, %q",
			w.Name, w.Workload.Replicas, len(l), gotCreate, gotRemove, create, remove)
	}
}

func TestPlanExample(t *testing.T) {
	wantPlan(t, load("app", 2), nil, []string{"app-0000", "app-0001"}, nil)
}

// TestPlanOfEachMany: as many as are wanting, or too many, at most Burst.
func TestPlanOfEachMany(t *testing.T) {
	same(t, Burst, 16)
	for there := range 40 {
		l := ready("app", count(0, there-1)...)
		for wanted := range 40 {
			var create, remove []string
			if there < wanted {
				create = numbered("app", count(there, min(wanted, there+16)-1)...)
			}
			if there > wanted {
				remove = numbered("app", count(max(wanted, there-16), there-1)...)
				slices.Reverse(remove)
			}
			wantPlan(t, load("app", wanted), l, create, remove)
		}
	}
}

// TestPlanOfAnyReplicas: at both ends of their type, also such as may not be.
func TestPlanOfAnyReplicas(t *testing.T) {
	l := ready("app", count(0, 19)...)
	for _, many := range []int{api.MaxReplicas - 1, api.MaxReplicas, api.MaxReplicas + 1, 1 << 32, math.MaxInt - 1, math.MaxInt} {
		wantPlan(t, load("app", many), nil, numbered("app", count(0, 15)...), nil)
		wantPlan(t, load("app", many), l, numbered("app", count(20, 35)...), nil)
	}
	down := numbered("app", count(4, 19)...)
	slices.Reverse(down)
	for _, few := range []int{math.MinInt, math.MinInt + 1, math.MinInt + 19, math.MinInt + 20, math.MinInt + 21, -1 << 32, -17, -16, -1, 0} {
		wantPlan(t, load("app", few), nil, nil, nil)
		wantPlan(t, load("app", few), l, nil, down)
		wantPlan(t, load("app", few), l[:1], nil, numbered("app", 0))
	}
}

// TestPlanOfLeastNumbers: those that are free, wherever they are, and in whatever
// order the pods stand.
func TestPlanOfLeastNumbers(t *testing.T) {
	l := ready("app", 7, 0, 3, 2, 9999, 5)
	wantPlan(t, load("app", 7), l, numbered("app", 1), nil)
	wantPlan(t, load("app", 8), l, numbered("app", 1, 4), nil)
	wantPlan(t, load("app", 11), l, numbered("app", 1, 4, 6, 8, 9), nil)
	wantPlan(t, load("app", 99), l, numbered("app", 1, 4, 6, 8, 9, 10, 11, 12, 13, 14, 15, 16, 17, 18, 19, 20), nil)
}

// TestPlanOfOtherNames: a pod counts by its owner, and takes a number by its name.
func TestPlanOfOtherNames(t *testing.T) {
	var l []api.Object
	for _, name := range []string{"app", "app-", "app-0", "app-1", "app-000", "app-00000", "app-0000-0000", "app0000", "App-0000", "0000", "web-0000", "", "app-0000\x00"} {
		l = append(l, app(name, api.Bound, 5))
	}
	wantPlan(t, load("app", 13), l, nil, nil)
	wantPlan(t, load("app", 14), l, numbered("app", 0), nil)
	wantPlan(t, load("app", 12), l, nil, []string{"web-0000"})
}

// TestPlanOfOtherOwners: their pods don't count and don't go, but no other pod is
// made with the name of one of them, whatever its phase is.
func TestPlanOfOtherOwners(t *testing.T) {
	for _, owner := range []string{"web", "", "ap", "apps", "App", "app-0000", "app ", "app\x00"} {
		for _, phase := range []int{api.Pending, api.Bound, api.Ready, api.Failed, -1, 4, math.MinInt, math.MaxInt} {
			l := []api.Object{owned(owner, "app-0000", phase, 5), app("app-0001", api.Ready, 5), owned(owner, "app-0002", phase, 9)}
			wantPlan(t, load("app", 4), l, numbered("app", 3, 4, 5), nil)
			wantPlan(t, load("app", 1), l, nil, nil)
			wantPlan(t, load("app", 0), l, nil, numbered("app", 1))
		}
	}
}

// TestPlanOfPodsAlone: an object of another kind is no pod, whatever stands in it.
func TestPlanOfPodsAlone(t *testing.T) {
	for _, kind := range append(otherKinds, api.KindWorkload) {
		if kind == api.KindPod {
			continue
		}
		l := []api.Object{app("app-0000", api.Ready, 5), app("app-0001", api.Failed, 5), app("app-0002", api.Bound, 5), owned("web", "app-0003", api.Ready, 5)}
		for i := range l {
			l[i].Kind = kind
		}
		l = append(l, app("app-0001", api.Ready, 5))
		wantPlan(t, load("app", 5), l, numbered("app", 0, 2, 3, 4), nil)
		wantPlan(t, load("app", 1), l, nil, nil)
		wantPlan(t, load("app", 0), l, nil, numbered("app", 1))
	}
}

// TestPlanOfFailed: all of them go, rising by names, whatever Replicas are and
// however many they are, and ahead of all others.
func TestPlanOfFailed(t *testing.T) {
	var l []api.Object
	for i, name := range []string{"b", "app-0003", "z", "app-0001", "", "app", "a\xff", "app0", "A"} {
		l = append(l, app(name, api.Failed, int64(i)))
	}
	rising := []string{"", "A", "app", "app-0001", "app-0003", "app0", "a\xff", "b", "z"}
	wantPlan(t, load("app", 0), l, nil, rising)
	wantPlan(t, load("app", -3), l, nil, rising)
	l = append(l, app("app-0002", api.Ready, 5), app("app-0005", api.Pending, 5), owned("web", "y", api.Failed, 5))
	wantPlan(t, load("app", 2), l, nil, rising)
	wantPlan(t, load("app", 1), l, nil, append(slices.Clone(rising), "app-0005"))
	wantPlan(t, load("app", 0), l, nil, append(slices.Clone(rising), "app-0005", "app-0002"))
	wantPlan(t, load("app", 6), l, numbered("app", 0, 1, 3, 4), rising)
}

// TestPlanOfManyFailed: they aren't counted for Burst.
func TestPlanOfManyFailed(t *testing.T) {
	var l []api.Object
	for _, name := range numbered("app", count(0, 199)...) {
		l = append(l, app(name, api.Failed, 5))
	}
	l = append(l, ready("app", count(200, 229)...)...)
	failed := numbered("app", count(0, 199)...)
	over := numbered("app", count(214, 229)...)
	slices.Reverse(over)
	wantPlan(t, load("app", 3), l, nil, slices.Concat(failed, over))
	wantPlan(t, load("app", 29), l, nil, slices.Concat(failed, numbered("app", 229)))
	wantPlan(t, load("app", 30), l, nil, failed)
	wantPlan(t, load("app", 31), l, numbered("app", 0), failed)
	wantPlan(t, load("app", 99), l, numbered("app", count(0, 15)...), failed)
}

// TestPlanOfOneNameTwice: a number is free just if all that have it go.
func TestPlanOfOneNameTwice(t *testing.T) {
	failed, live, other := app("app-0000", api.Failed, 5), app("app-0000", api.Ready, 5), owned("web", "app-0000", api.Failed, 5)
	for _, l := range [][]api.Object{{failed, live}, {live, failed}} {
		wantPlan(t, load("app", 2), l, numbered("app", 1), numbered("app", 0))
	}
	for _, l := range [][]api.Object{{failed, other}, {other, failed}} {
		wantPlan(t, load("app", 1), l, numbered("app", 1), numbered("app", 0))
	}
	wantPlan(t, load("app", 1), []api.Object{failed, failed}, numbered("app", 0), numbered("app", 0, 0))
	wantPlan(t, load("app", 0), []api.Object{live, live}, nil, numbered("app", 0, 0))
}

// TestPlanOfTheFirstToGo: by phases, then the younger one, then the greater name.
func TestPlanOfTheFirstToGo(t *testing.T) {
	l := []api.Object{
		app("f", api.Ready, 9), app("d", api.Bound, 1), app("a", api.Pending, 1), app("g", api.Ready, 8), app("b", 4, 1),
		app("c", api.Pending, 2), app("e", api.Bound, 1), app("h", api.Ready, 8), app("x", api.Failed, 1),
	}
	order := []string{"x", "b", "c", "a", "e", "d", "f", "h", "g"}
	for wanted := range 9 {
		wantPlan(t, load("app", wanted), l, nil, order[:len(order)-wanted])
	}
	wantPlan(t, load("app", 9), l, numbered("app", 0), order[:1])
}

func TestPlanOfNoWorkload(t *testing.T) {
	l := append(ready("app", 0, 1, 2), app("app-0003", api.Failed, 5))
	for _, kind := range otherKinds {
		for _, replicas := range []int{0, 2, 5} {
			w := load("app", replicas)
			w.Kind = kind
			create, remove := Plan(w, l)
			same(t, len(create)+len(remove), 0)
			wantPlan(t, w, nil, nil, nil)
		}
	}
	wantPlan(t, api.Object{}, l, nil, nil) // a workload of no name
}

// TestPlanOfAnyName: of an owner whose pods can have no name none is created, but
// those that it has go.
func TestPlanOfAnyName(t *testing.T) {
	for length := 1; length <= 33; length++ {
		owner := strings.Repeat("a", length)
		var create []string
		if length <= 27 {
			create = numbered(owner, 0, 1)
		}
		l := []api.Object{owned(owner, "b", api.Failed, 5), owned(owner, "c", api.Ready, 5), owned(owner, "d", api.Ready, 5)}
		wantPlan(t, load(owner, 4), l, create, []string{"b"})
		wantPlan(t, load(owner, 1), l, nil, []string{"b", "d"})
	}
	for _, owner := range noNames {
		l := []api.Object{owned(owner, "b", api.Failed, 5), owned(owner, "c", api.Ready, 5), owned(owner, "d", api.Ready, 5), app("e", api.Failed, 5)}
		wantPlan(t, load(owner, 4), l, nil, []string{"b"})
		wantPlan(t, load(owner, 1), l, nil, []string{"b", "d"})
	}
}

// TestPlanOfNoNumbers: there are 10000 of them, and no more.
func TestPlanOfNoNumbers(t *testing.T) {
	l := ready("web", count(0, 9999)...)
	for i := range l {
		l[i].Pod.Owner = "app"
	}
	wantPlan(t, load("web", 5), l, nil, nil)
	wantPlan(t, load("web", 5), l[:9999], numbered("web", 9999), nil)
	wantPlan(t, load("web", 5), l[:9997], numbered("web", 9997, 9998, 9999), nil)
	wantPlan(t, load("web", 5), l[1:], numbered("web", 0), nil)
	wantPlan(t, load("app", 10000), l, nil, nil)
	wantPlan(t, load("app", 10002), l, numbered("app", 0, 1), nil)
}

// TestPlanOfNothingElse: but for its name and Replicas nothing of a workload counts,
// also if it may not be.
func TestPlanOfNothingElse(t *testing.T) {
	w := api.Object{Kind: api.KindWorkload, Name: "app", Version: 9, Workload: api.Workload{Replicas: 3, Ask: api.Resources{CPU: -1}, Warm: -5},
		Pod: api.Pod{Owner: "web", Phase: api.Failed}}
	wantPlan(t, w, nil, numbered("app", 0, 1, 2), nil)
	wantPlan(t, w, ready("app", 1, 4, 6, 8), nil, numbered("app", 8))
}

// slowPlan is what Plan answers, by the chapter's words.
func slowPlan(w api.Object, l []api.Object) (create, remove []string) {
	if w.Kind != api.KindWorkload {
		return nil, nil
	}
	var left, live []api.Object
	for _, o := range l {
		switch {
		case o.Kind != api.KindPod:
		case o.Pod.Owner == w.Name && o.Pod.Phase == api.Failed:
			remove = append(remove, o.Name)
		case o.Pod.Owner == w.Name:
			live = append(live, o)
			left = append(left, o)
		default:
			left = append(left, o)
		}
	}
	slices.Sort(remove)
	for n := 0; len(live)+len(create) < w.Workload.Replicas && len(create) < 16; n++ {
		name := numbered(w.Name, n)[0]
		if !slices.ContainsFunc(left, func(o api.Object) bool { return o.Name == name }) {
			create = append(create, name)
		}
	}
	for gone := 0; len(live) > w.Workload.Replicas && gone < 16; gone++ {
		first := 0
		for i, o := range live {
			f := live[first]
			younger := o.Pod.Since > f.Pod.Since || o.Pod.Since == f.Pod.Since && o.Name > f.Name
			if o.Pod.Phase < f.Pod.Phase || o.Pod.Phase == f.Pod.Phase && younger {
				first = i
			}
		}
		remove = append(remove, live[first].Name)
		live = slices.Delete(live, first, first+1)
	}
	return create, remove
}

// chancePods are few or many pods, most of them of app, each with a name of its own.
func chancePods(r *rand.Rand) []api.Object {
	var l []api.Object
	for _, n := range r.Perm(60)[:r.Intn(60)] {
		name := numbered([]string{"app", "app", "web"}[r.Intn(3)], n)[0]
		l = append(l, owned([]string{"app", "app", "app", "web", "gone"}[r.Intn(5)], name, r.Intn(4), int64(r.Intn(4))))
	}
	return l
}

func TestPlanOfAny(t *testing.T) {
	r := rand.New(rand.NewSource(1))
	for range 10000 {
		l := chancePods(r)
		w := load([]string{"app", "web"}[r.Intn(2)], r.Intn(50))
		create, remove := slowPlan(w, l)
		wantPlan(t, w, l, create, remove)
	}
}

// P16.1 Workload, Pass

func fresh(t *testing.T, most int, l ...api.Object) *store.Store {
	t.Helper()
	s, e := store.New(most)
	same(t, e, api.OK)
	put(t, s, l...)
	return s
}

// put puts objects in.
func put(t *testing.T, s *store.Store, l ...api.Object) {
	t.Helper()
	for _, o := range l {
		if _, e := s.Create(o); e != api.OK {
			t.Fatalf("Create(%+v): %d", o, e)
		}
	}
}

// scale gives a workload of a store other Replicas.
func scale(t *testing.T, s *store.Store, name string, replicas int) {
	t.Helper()
	w, ok := s.Get(api.KindWorkload, name)
	same(t, ok, true)
	w.Workload.Replicas = replicas
	_, e := s.Update(w)
	same(t, e, api.OK)
}

// others are objects of all kinds but workloads and pods, with a name.
func others(name string) []api.Object {
	size := api.Resources{CPU: 1000}
	return []api.Object{
		{Kind: api.KindNode, Name: name, Node: api.Node{Size: size}},
		{Kind: api.KindGroup, Name: name, Group: api.Group{Min: 1, Max: 3, Target: 2, Size: size}},
		{Kind: api.KindHpa, Name: name, Hpa: api.Hpa{Target: "web", Min: 1, Max: 9, Metrics: []api.Metric{{Name: "cpu", Target: 500}}}},
	}
}

// see is all objects of a store.
func see(s *store.Store) []api.Object {
	var l []api.Object
	for kind := range api.Kinds {
		l = slices.AppendSeq(l, s.List(kind))
	}
	return l
}

// names are those of a store's pods.
func names(s *store.Store) []string {
	var l []string
	for o := range s.List(api.KindPod) {
		l = append(l, o.Name)
	}
	return l
}

// change is an event of a pod, but for its version.
type change struct {
	of   int
	name string
}

// made, gone are changes of pods by these names.
func made(names ...string) []change { return changes(api.Created, names) }
func gone(names ...string) []change { return changes(api.Deleted, names) }

func changes(of int, names []string) []change {
	var l []change
	for _, name := range names {
		l = append(l, change{of, name})
	}
	return l
}

// wantEvents wants that a pass told these changes, and no others, from a version on,
// and that the store tells the same.
func wantEvents(t *testing.T, s *store.Store, before uint64, got []api.Event, e api.Errno, want []change) {
	t.Helper()
	same(t, e, api.OK)
	var events []api.Event
	for i, c := range want {
		events = append(events, api.Event{Type: c.of, Kind: api.KindPod, Name: c.name, Version: before + uint64(i) + 1})
	}
	if !slices.Equal(got, events) {
		t.Fatalf("from %d on: %v, want %v", before, got, events)
	}
	same(t, s.Now(), before+uint64(len(want)))
	kept, e := s.Since(before)
	same(t, e, api.OK)
	same(t, slices.Equal(kept, events), true)
}

// wantWorkload has a pass over a workload, and wants these changes of it.
func wantWorkload(t *testing.T, s *store.Store, name string, now int64, want ...[]change) {
	t.Helper()
	before := s.Now()
	got, e := Workload(s, name, now)
	wantEvents(t, s, before, got, e, slices.Concat(want...))
}

// wantPass has a pass over all, and wants these changes of it.
func wantPass(t *testing.T, s *store.Store, now int64, want ...[]change) {
	t.Helper()
	before := s.Now()
	got, e := Pass(s, now)
	wantEvents(t, s, before, got, e, slices.Concat(want...))
}

// wantMade wants that a pod is as chapter 14's Made has it.
func wantMade(t *testing.T, s *store.Store, w api.Object, name string, now int64) {
	t.Helper()
	o, ok := s.Get(api.KindPod, name)
	same(t, ok, true)
	v := o.Version
	x := w.Workload
	same(t, o, api.Object{Kind: api.KindPod, Name: name, Version: v, Pod: api.Pod{Owner: w.Name, Phase: api.Pending, Since: now,
		Ask: x.Ask, Labels: x.Labels, Select: x.Select, Tolerate: x.Tolerate, Warm: x.Warm}})
}

// both are a pass over app alone and one over all, that do the same where there is
// no other workload and no pod without one.
func both() []func(s *store.Store, now int64) ([]api.Event, api.Errno) {
	return []func(s *store.Store, now int64) ([]api.Event, api.Errno){
		func(s *store.Store, now int64) ([]api.Event, api.Errno) { return Workload(s, "app", now) },
		Pass,
	}
}

// wantBoth wants these changes of both at a tick, each in a copy of a store, and
// hands on what each leaves.
func wantBoth(t *testing.T, s *store.Store, now int64, want []change, left func(s *store.Store)) {
	t.Helper()
	before := see(s)
	for _, pass := range both() {
		c := s.Copy()
		got, e := pass(c, now)
		wantEvents(t, c, s.Now(), got, e, want)
		left(c)
		same(t, see(s), before)
	}
}

func TestExample(t *testing.T) {
	w := load("app", 2)
	for _, now := range []int64{0, 1, 5, api.MaxClock - 1, api.MaxClock} {
		wantBoth(t, fresh(t, 9, w), now, made("app-0000", "app-0001"), func(s *store.Store) {
			same(t, names(s), numbered("app", 0, 1))
			wantMade(t, s, w, "app-0000", now)
			wantMade(t, s, w, "app-0001", now)
			same(t, s.Len(), 3)
		})
	}
}

// TestMade: each pod asks for what its workload asks for now, and all that there
// were stay as they are.
func TestMade(t *testing.T) {
	s := fresh(t, 30, load("app", 3), app("app-0001", api.Bound, 2))
	was, _ := s.Get(api.KindPod, "app-0001")
	wantBoth(t, s, 4, made("app-0000", "app-0002"), func(s *store.Store) {
		w, _ := s.Get(api.KindWorkload, "app")
		w.Workload.Ask, w.Workload.Warm, w.Workload.Labels, w.Workload.Replicas = api.Resources{CPU: 3}, 0, nil, 4
		_, e := s.Update(w)
		same(t, e, api.OK)
		wantWorkload(t, s, "app", 6, made("app-0003"))
		wantMade(t, s, load("app", 4), "app-0000", 4)
		wantMade(t, s, w, "app-0003", 6)
		still, _ := s.Get(api.KindPod, "app-0001")
		same(t, still, was)
	})
}

// TestFailed: they go ahead of all else, and their numbers are free then; what comes
// in the place of one is a new pod.
func TestFailed(t *testing.T) {
	w := load("app", 3)
	s := fresh(t, 30, w, app("app-0002", api.Failed, 3), app("app-0000", api.Failed, 9), app("app-0001", api.Ready, 1), app("x", api.Failed, 1))
	want := slices.Concat(gone("app-0000", "app-0002", "x"), made("app-0000", "app-0002"))
	wantBoth(t, s, 7, want, func(s *store.Store) {
		same(t, names(s), numbered("app", 0, 1, 2))
		wantMade(t, s, w, "app-0000", 7)
		wantMade(t, s, w, "app-0002", 7)
	})
	scale(t, s, "app", 1)
	wantBoth(t, s, 7, gone("app-0000", "app-0002", "x"), func(s *store.Store) { same(t, names(s), numbered("app", 1)) })
	scale(t, s, "app", 0)
	wantBoth(t, s, 7, gone("app-0000", "app-0002", "x", "app-0001"), func(s *store.Store) { same(t, s.Len(), 1) })
}

// TestFewer: the first to go first, at most Burst.
func TestFewer(t *testing.T) {
	s := fresh(t, 90, load("app", 2), app("a", api.Ready, 9), app("b", api.Bound, 1), app("c", api.Pending, 1), app("d", api.Ready, 1), app("e", api.Ready, 9))
	wantBoth(t, s, 7, gone("c", "b", "e"), func(s *store.Store) { same(t, names(s), []string{"a", "d"}) })
	put(t, s, ready("app", count(0, 29)...)...) // Since 5
	first := numbered("app", count(18, 29)...)
	slices.Reverse(first)
	wantBoth(t, s, 7, gone(append([]string{"c", "b", "e", "a"}, first...)...), func(s *store.Store) { same(t, s.Len(), 20) })
}

// TestFullStore: what there is room for comes, the least numbers first, and what is
// too much, and Failed, goes even so.
func TestFullStore(t *testing.T) {
	nodes := func(many int) []api.Object {
		var l []api.Object
		for _, name := range numbered("n", count(1, many)...) {
			l = append(l, api.Object{Kind: api.KindNode, Name: name, Node: api.Node{Size: api.Resources{CPU: 1}}})
		}
		return l
	}
	for room := range 20 {
		for wanted := range 20 {
			s := fresh(t, 30, append(nodes(29-room), load("app", wanted))...)
			want := made(numbered("app", count(0, min(room, wanted, 16)-1)...)...)
			wantBoth(t, s, 7, want, func(s *store.Store) { same(t, s.Len(), 30-room+len(want)) })
		}
	}
	s := fresh(t, 6, load("app", 9), app("app-0001", api.Failed, 1), app("app-0002", api.Failed, 1), app("app-0003", api.Ready, 1), others("a")[0], others("b")[0])
	wantBoth(t, s, 7, slices.Concat(gone("app-0001", "app-0002"), made("app-0000", "app-0001")), func(s *store.Store) { same(t, s.Len(), 6) })
	scale(t, s, "app", 0)
	wantBoth(t, s, 7, gone("app-0001", "app-0002", "app-0003"), func(s *store.Store) { same(t, s.Len(), 3) })
}

// TestOtherKinds: things of other kinds stay as they are, and take no number.
func TestOtherKinds(t *testing.T) {
	s := fresh(t, 90, load("app", 3))
	for _, name := range []string{"app", "app-0000", "app-0001"} {
		put(t, s, others(name)...)
	}
	before := see(s)
	wantBoth(t, s, 7, made(numbered("app", 0, 1, 2)...), func(s *store.Store) {
		scale(t, s, "app", 0)
		wantWorkload(t, s, "app", 8, gone(numbered("app", 2, 1, 0)...))
		scale(t, s, "app", 3)
		after := see(s)
		after[0].Version = before[0].Version
		same(t, after, before)
	})
}

// TestLongNames: a workload whose pods can have no name gets none, and that is all.
func TestLongNames(t *testing.T) {
	for length := 27; length <= api.MaxName; length++ {
		w := load(strings.Repeat("a", length), 2)
		s := fresh(t, 9, w)
		var want []change
		if length == 27 {
			want = made(numbered(w.Name, 0, 1)...)
		}
		wantWorkload(t, s, w.Name, 7, want)
		s = fresh(t, 9, w, load("b", 1))
		wantPass(t, s, 7, want, made("b-0000"))
		put(t, s, owned(w.Name, "x", api.Failed, 1))
		wantPass(t, s, 8, gone("x"))
	}
}

func TestWorkloadErrors(t *testing.T) {
	s := fresh(t, 20, load("app", 2), app("x", api.Failed, 1), owned("web", "y", api.Ready, 1), others("z")[0], others("z")[1], others("z")[2])
	before, now := see(s), s.Now()
	refused := func(x *store.Store, name string, tick int64, want api.Errno) {
		t.Helper()
		if l, e := Workload(x, name, tick); l != nil || e != want {
			t.Errorf("Workload(%q) at %d: %v, %d, want %d", name, tick, l, e, want)
		}
		same(t, see(s), before)
		same(t, s.Now(), now)
	}
	for _, name := range append(noNames, "app", "x", "y", "z", "web", "app-0000", "App", "ap") {
		for _, tick := range noTicks {
			refused(s, name, tick, api.ErrArg) // ahead of ErrNone
			refused(nil, name, tick, api.ErrArg)
		}
		for _, tick := range []int64{0, 1, api.MaxClock} {
			refused(nil, name, tick, api.ErrArg)
			if name != "app" {
				refused(s, name, tick, api.ErrNone)
			}
		}
	}
	for _, pass := range both() {
		for _, tick := range []int64{0, api.MaxClock} {
			c := s.Copy()
			l, e := pass(c, tick)
			same(t, e, api.OK)
			same(t, len(l) >= 3, true)
		}
	}
}

func TestPassErrors(t *testing.T) {
	s := fresh(t, 20, load("app", 2), app("x", api.Failed, 1), owned("web", "y", api.Ready, 1))
	before, now := see(s), s.Now()
	for _, tick := range append(noTicks, 0, 1, api.MaxClock) {
		for _, x := range []*store.Store{s, nil} {
			if x == s && !slices.Contains(noTicks, tick) {
				continue
			}
			if l, e := Pass(x, tick); l != nil || e != api.ErrArg {
				t.Errorf("Pass at %d: %v, %d", tick, l, e)
			}
			same(t, see(s), before)
			same(t, s.Now(), now)
		}
	}
}

// TestWorkloadAlone: of others nothing comes or goes, nor of those that there aren't.
func TestWorkloadAlone(t *testing.T) {
	s := fresh(t, 50, load("app", 2), load("web", 3), load("db", 0),
		app("a", api.Failed, 1), owned("web", "b", api.Failed, 1), owned("db", "c", api.Ready, 1), owned("gone", "d", api.Ready, 1), owned("gone", "e", api.Failed, 1))
	wantWorkload(t, s, "app", 7, gone("a"), made("app-0000", "app-0001"))
	wantWorkload(t, s, "web", 7, gone("b"), made("web-0000", "web-0001", "web-0002"))
	wantWorkload(t, s, "db", 7, gone("c"))
	same(t, names(s), []string{"app-0000", "app-0001", "d", "e", "web-0000", "web-0001", "web-0002"})
}

// TestPass: over all, rising by names, and then whatever has no workload goes, rising
// by names, in whatever order they came.
func TestPass(t *testing.T) {
	l := []api.Object{
		load("app", 1), load("app-0", 1), load("b", 0), load("web", 3),
		app("z", api.Failed, 1), owned("app-0", "y", api.Failed, 1), owned("b", "x", api.Ready, 1), owned("web", "w", api.Failed, 1), owned("web", "web-0001", api.Bound, 1),
		owned("gone", "app-0000", api.Ready, 1), owned("x", "v", api.Failed, 1), owned("a", "web-0000", api.Pending, 1), owned("we", "0", api.Bound, 1), owned("z", "zz", api.Ready, 9),
	}
	r := rand.New(rand.NewSource(2))
	for range 50 {
		s := fresh(t, 30)
		for _, i := range r.Perm(len(l)) {
			put(t, s, l[i])
		}
		wantPass(t, s, 7, gone("z"), made("app-0001"), gone("y"), made("app-0-0000"), gone("x"), gone("w"), made("web-0002", "web-0003"),
			gone("0", "app-0000", "v", "web-0000", "zz"))
		wantPass(t, s, 8)
		same(t, names(s), []string{"app-0-0000", "app-0001", "web-0001", "web-0002", "web-0003"})
	}
}

// TestPassOfNoWorkload: all pods go, however many they are, also if something else
// has their owner's name.
func TestPassOfNoWorkload(t *testing.T) {
	s := fresh(t, 60, others("app")...)
	wantPass(t, s, 7)
	put(t, s, ready("app", count(0, 39)...)...)
	put(t, s, owned("app-0000", "x", api.Failed, 1))
	wantPass(t, s, 8, gone(append(numbered("app", count(0, 39)...), "x")...))
	same(t, s.Len(), 3)
	wantPass(t, s, 9)
}

// TestPassOfBursts: each workload has its own.
func TestPassOfBursts(t *testing.T) {
	s := fresh(t, 300, load("a", 20), load("b", 40), load("c", 3))
	wantPass(t, s, 1, made(numbered("a", count(0, 15)...)...), made(numbered("b", count(0, 15)...)...), made(numbered("c", count(0, 2)...)...))
	wantPass(t, s, 2, made(numbered("a", count(16, 19)...)...), made(numbered("b", count(16, 31)...)...))
	wantPass(t, s, 3, made(numbered("b", count(32, 39)...)...))
	wantPass(t, s, 4)
	scale(t, s, "a", 0)
	scale(t, s, "b", 30)
	down := func(owner string, from, to int) []change {
		l := numbered(owner, count(to, from)...)
		slices.Reverse(l)
		return gone(l...)
	}
	// The younger ones go first: those of the passes at 2 and 3.
	wantPass(t, s, 5, down("a", 19, 16), down("a", 15, 4), down("b", 39, 32), down("b", 31, 30))
	wantPass(t, s, 6, down("a", 3, 0))
	wantPass(t, s, 7)
}

// TestPassOfFullStores: a workload that gets no more pods doesn't hold up those
// behind it, and what goes makes room for what comes later.
func TestPassOfFullStores(t *testing.T) {
	s := fresh(t, 7, load("a", 3), load("b", 0), load("c", 5),
		owned("b", "x", api.Ready, 1), owned("b", "y", api.Ready, 1), owned("c", "z", api.Failed, 1), owned("gone", "w", api.Ready, 1))
	wantPass(t, s, 7, gone("y", "x"), gone("z"), made("c-0000", "c-0001", "c-0002"), gone("w"))
	wantPass(t, s, 8, made("a-0000"))
	wantPass(t, s, 9)
	scale(t, s, "c", 1)
	wantPass(t, s, 10, gone("c-0002", "c-0001"))
	wantPass(t, s, 11, made("a-0001", "a-0002"))
	wantPass(t, s, 12)
}

// TestPassOfManyEvents: all of a pass are told, as many as there can be, also behind
// so many others that the first ones aren't kept any more.
func TestPassOfManyEvents(t *testing.T) {
	for _, many := range []int{1, 2, 30, 31, 40, 256} {
		s := fresh(t, api.MaxObjects)
		var want [][]change
		var owners []string
		for i := range many {
			owners = append(owners, fmt.Sprintf("w%03d", i))
			put(t, s, load(owners[i], 512))
		}
		for range 2000 {
			scale(t, s, owners[0], 512)
		}
		failed := map[string][]string{}
		for i := range api.MaxObjects - many {
			owner := owners[i%many]
			name := numbered(owner, i/many+100)[0]
			put(t, s, owned(owner, name, api.Failed, 1))
			failed[owner] = append(failed[owner], name)
		}
		room, events := 0, 0
		for _, owner := range owners {
			room += len(failed[owner])
			come := min(room, 16)
			room -= come
			events += len(failed[owner]) + come
			want = append(want, gone(failed[owner]...), made(numbered(owner, count(0, come-1)...)...))
		}
		same(t, events <= api.MaxEvents, true)
		wantPass(t, s, 7, want...)
		// What of all that was wanting had no room at once comes by and by.
		settle(t, s, 8)
		same(t, s.Len(), api.MaxObjects)
		wantPass(t, s, 9)
	}
}

// chance does something to a store of few workloads and pods.
func chance(r *rand.Rand, s *store.Store, now int64) {
	owner := []string{"app", "db", "web"}[r.Intn(3)]
	switch r.Intn(8) {
	case 0:
		s.Create(load(owner, r.Intn(24)))
	case 1:
		if r.Intn(4) == 0 {
			s.Delete(api.KindWorkload, owner, 0)
		}
	case 2, 3:
		if w, ok := s.Get(api.KindWorkload, owner); ok {
			w.Workload.Replicas = r.Intn(24)
			s.Update(w)
		}
	case 4:
		s.Create(owned([]string{"app", "db", "web", "gone"}[r.Intn(4)], numbered(owner, r.Intn(20))[0], r.Intn(4), now))
	default:
		if o, ok := s.Get(api.KindPod, numbered(owner, r.Intn(20))[0]); ok {
			o.Pod.Node, o.Pod.Phase, o.Pod.Since = "n1", api.Bound+r.Intn(3), max(0, now-r.Int63n(3))
			s.Update(o)
		}
	}
}

// slowPass does by the chapter's words what a pass over workloads, rising, does.
func slowPass(s *store.Store, owners []string, now int64) []change {
	var l []change
	for _, owner := range owners {
		w, _ := s.Get(api.KindWorkload, owner)
		create, remove := slowPlan(w, slices.Collect(s.List(api.KindPod)))
		for _, name := range remove {
			s.Delete(api.KindPod, name, 0)
			l = append(l, change{api.Deleted, name})
		}
		for _, name := range create {
			x := w.Workload
			p := api.Pod{Owner: owner, Since: now, Ask: x.Ask, Labels: x.Labels, Select: x.Select, Tolerate: x.Tolerate, Warm: x.Warm}
			if _, e := s.Create(api.Object{Kind: api.KindPod, Name: name, Pod: p}); e == api.ErrFull {
				break
			}
			l = append(l, change{api.Created, name})
		}
	}
	return l
}

// slowPassOfAll does by the chapter's words what a pass over all does.
func slowPassOfAll(s *store.Store, now int64) []change {
	var owners []string
	for w := range s.List(api.KindWorkload) {
		owners = append(owners, w.Name)
	}
	l := slowPass(s, owners, now)
	for _, o := range slices.Collect(s.List(api.KindPod)) {
		if !slices.Contains(owners, o.Pod.Owner) {
			s.Delete(api.KindPod, o.Name, 0)
			l = append(l, change{api.Deleted, o.Name})
		}
	}
	return l
}

// TestPassOfAny holds passes over chance stores, of little room and of much, against
// the chapter's words.
func TestPassOfAny(t *testing.T) {
	r := rand.New(rand.NewSource(3))
	for _, most := range []int{5, 12, 25, 40, 200} {
		s := fresh(t, most)
		total := 0
		for i := range 2500 {
			now := int64(i / 4)
			chance(r, s, now)
			if r.Intn(3) > 0 {
				continue
			}
			if w := slices.Collect(s.List(api.KindWorkload)); len(w) > 0 && r.Intn(2) == 0 {
				c, owner := s.Copy(), w[r.Intn(len(w))].Name
				want := slowPass(c, []string{owner}, now)
				wantWorkload(t, s, owner, now, want)
				same(t, see(s), see(c))
				total += len(want)
				continue
			}
			c := s.Copy()
			want := slowPassOfAll(c, now)
			wantPass(t, s, now, want)
			same(t, see(s), see(c))
			total += len(want)
		}
		if total < 200 {
			t.Errorf("only %d changes", total)
		}
	}
}

// P16.2

// settle has passes until one changes nothing.
func settle(t *testing.T, s *store.Store, now int64) {
	t.Helper()
	for range 100 {
		l, e := Pass(s, now)
		same(t, e, api.OK)
		now++
		if len(l) == 0 {
			return
		}
	}
	t.Fatal("no rest")
}

// TestRest: behind as many passes as it takes there are as many as there should be,
// none of them Failed, and a pass then changes nothing.
func TestRest(t *testing.T) {
	r := rand.New(rand.NewSource(4))
	s := fresh(t, 200)
	for i := range 500 {
		now := int64(i)
		for range r.Intn(12) {
			chance(r, s, now)
		}
		settle(t, s, now)
		before, version := see(s), s.Now()
		wanted, there := map[string]int{}, map[string]int{}
		for w := range s.List(api.KindWorkload) {
			if w.Workload.Replicas > 0 {
				wanted[w.Name] = w.Workload.Replicas
			}
		}
		for o := range s.List(api.KindPod) {
			same(t, o.Pod.Phase != api.Failed, true)
			there[o.Pod.Owner]++
		}
		same(t, there, wanted)
		for later := range int64(3) {
			wantPass(t, s, now+later)
		}
		for name := range wanted {
			wantWorkload(t, s, name, now)
		}
		same(t, see(s), before)
		same(t, s.Now(), version)
	}
}

// TestRestWithoutRoom: a pass that can do nothing changes nothing.
func TestRestWithoutRoom(t *testing.T) {
	r := rand.New(rand.NewSource(5))
	for range 300 {
		s := fresh(t, 10)
		for range 40 {
			chance(r, s, 5)
		}
		settle(t, s, 6)
		wantPass(t, s, 500)
		room := s.Len() < 10
		for w := range s.List(api.KindWorkload) {
			there := 0
			for o := range s.List(api.KindPod) {
				if o.Pod.Owner == w.Name {
					there++
				}
			}
			same(t, there <= w.Workload.Replicas, true)
			same(t, room && there < w.Workload.Replicas, false)
		}
	}
}

// whole is all of a row, and of its objects' rows, with all spare room.
func whole(l []api.Object) []api.Object {
	l = slices.Clone(l[:cap(l)])
	for i := range l {
		w, p := &l[i].Workload, &l[i].Pod
		for _, r := range []*[]api.Label{&w.Labels, &w.Tolerate, &p.Labels, &p.Tolerate} {
			*r = (*r)[:cap(*r)]
		}
		for _, r := range []*[]api.Require{&w.Select, &p.Select} {
			*r = (*r)[:cap(*r)]
		}
	}
	return l
}

// riches is a workload and pods with something in each field, and with spare room
// that has something in it; each time the same in memory of its own.
func riches(replicas int) (api.Object, []api.Object) {
	rich := func(name string, phase int, since int64) api.Object {
		o, w := app(name, phase, since), load("app", 3).Workload
		o.Pod.Labels, o.Pod.Select, o.Pod.Tolerate, o.Workload = w.Labels, w.Select, w.Tolerate, load("app", 3).Workload
		return o
	}
	return load("app", replicas), row(rich("spare", api.Failed, 9), rich("b", api.Ready, 5), rich("f", api.Failed, 5), rich("a", api.Ready, 5),
		rich("c", api.Pending, 5), rich("e", api.Failed, 5), rich("app-0001", api.Bound, 5))
}

// TestPlanChangesNothing: what is handed in stays, its spare room too, and is not
// kept; answers share no memory with one another.
func TestPlanChangesNothing(t *testing.T) {
	for replicas, want := range [][2][]string{
		{nil, {"e", "f", "c", "app-0001", "b", "a"}},
		{nil, {"e", "f", "c", "app-0001", "b"}},
		{nil, {"e", "f", "c", "app-0001"}},
		{nil, {"e", "f", "c"}},
		{nil, {"e", "f"}},
		{{"app-0000"}, {"e", "f"}},
		{{"app-0000", "app-0002"}, {"e", "f"}},
	} {
		w, l := riches(replicas)
		wasW, was := riches(replicas)
		wantPlan(t, w, l, want[0], want[1])
		create, remove := Plan(w, l)
		same(t, whole(l), whole(was))
		same(t, whole([]api.Object{w}), whole([]api.Object{wasW}))
		_, _ = append(create, "x", "x"), append(remove, "x", "x")
		same(t, slices.Equal(create, want[0]) && slices.Equal(remove, want[1]), true)
		for _, names := range [][]string{create, remove} {
			for i := range names[:cap(names)] {
				names[:cap(names)][i] = "smudged"
			}
		}
		wantPlan(t, w, l, want[0], want[1])
		for i := range l[:cap(l)] {
			l[:cap(l)][i] = api.Object{Kind: api.KindPod, Name: "smudged", Pod: api.Pod{Owner: "app", Phase: api.Failed}}
		}
		wantPlan(t, wasW, was, want[0], want[1])
	}
	w, l := riches(2)
	wantPlan(t, w, l[:0], numbered("app", 0, 1), nil) // all of it is spare
}

// TestEventsAreTheirOwn: what is done to events that were told changes nothing, and a
// pass over a copy nothing of the store.
func TestEventsAreTheirOwn(t *testing.T) {
	s := fresh(t, 30, load("app", 3), load("web", 1), app("x", api.Failed, 1), owned("gone", "y", api.Ready, 1))
	for _, pass := range both() {
		c, before := s.Copy(), see(s)
		first, e := pass(c, 8)
		same(t, e, api.OK)
		same(t, see(s), before)
		same(t, s.Now(), uint64(4))
		after, want := see(c), slices.Clone(first)
		for i := range first[:cap(first)] {
			first[:cap(first)][i] = api.Event{Type: api.Updated, Name: "smudged"}
		}
		kept, e := c.Since(4)
		same(t, e, api.OK)
		same(t, slices.Equal(kept, want), true)
		same(t, see(c), after)
		second, e := pass(s.Copy(), 8)
		same(t, e, api.OK)
		same(t, slices.Equal(second, want), true)
	}
}

// TestPodsAreTheirOwn: of what a pod asks none is another's, nor the workload's.
func TestPodsAreTheirOwn(t *testing.T) {
	w := load("app", 2)
	s := fresh(t, 30, w)
	wantPass(t, s, 8, made("app-0000", "app-0001"))
	before := see(s)
	o, _ := s.Get(api.KindPod, "app-0000")
	for _, r := range [][]api.Label{o.Pod.Labels, o.Pod.Tolerate, w.Workload.Labels, w.Workload.Tolerate} {
		for i := range r[:cap(r)] {
			r[:cap(r)][i].Key = "smudged"
		}
	}
	o.Pod.Select[0].Key, w.Workload.Select[0].Key = "smudged", "smudged"
	same(t, see(s), before)
	for _, o := range before {
		same(t, valid.Check(o), api.OK)
	}
}
