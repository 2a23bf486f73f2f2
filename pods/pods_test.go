package pods

import (
	"fmt"
	"math"
	"math/big"
	"math/rand"
	"reflect"
	"slices"
	"strconv"
	"strings"
	"testing"

	"trimtab/api"
	"trimtab/label"
	"trimtab/store"
	"trimtab/valid"
)

// phases are all phases, and numbers that are none.
var phases = []int{api.Pending, api.Bound, api.Ready, api.Failed, -1, 4, math.MinInt, math.MaxInt}

// ticks are ticks at the ends, around them, and between.
var ticks = []int64{math.MinInt64, math.MinInt64 + 1, math.MinInt64 + 1800, -1801, -2, -1, 0, 1, 2, 5, 7, 8, 9, 1799, 1800, 1801,
	api.MaxClock - 1, api.MaxClock, api.MaxClock + 1, math.MaxInt64 - 1800, math.MaxInt64 - 1, math.MaxInt64}

// warms are numbers of ticks.
var warms = []int{math.MinInt, math.MinInt + 1, -1800, -2, -1, 0, 1, 2, 3, 1799, 1800, 1801, math.MaxInt - 1, math.MaxInt}

// noNames are texts that are no names.
var noNames = []string{"", "-", "-a", "a-", "A", "a b", "a_b", "a.b", "a\x00", "a\n", "é", "a\xff", strings.Repeat("a", 33), strings.Repeat("a", 5000)}

func same(t *testing.T, got, want any) {
	t.Helper()
	if !reflect.DeepEqual(got, want) {
		t.Fatalf("got %+v, want %+v", got, want)
	}
}

// rich is a pod with something in each field, and with spare room in its rows.
func rich(phase int, node string, since int64, warm int) api.Pod {
	return api.Pod{
		Owner:    "web",
		Node:     node,
		Phase:    phase,
		Since:    since,
		Ask:      api.Resources{CPU: 1000, Mem: 5},
		Labels:   append(make([]api.Label, 0, 4), api.Label{Key: "app", Value: "web"}, api.Label{Key: "zone", Value: "a"}),
		Select:   append(make([]api.Require, 0, 4), api.Require{Key: "disk", Value: "ssd", Op: api.Isnt}),
		Tolerate: append(make([]api.Label, 0, 4), api.Label{Key: "gpu"}),
		Warm:     warm,
	}
}

// load is a workload with something in each field, and with spare room in its
// rows.
func load() api.Workload {
	p := rich(0, "", 0, 7)
	return api.Workload{Replicas: 3, Ask: p.Ask, Labels: p.Labels, Select: p.Select, Tolerate: p.Tolerate, Warm: p.Warm}
}

// room is a row's own places and its spare ones.
func room[T any](row []T) []T { return slices.Clone(row[:cap(row)]) }

// smudge writes something else to each place of rows, the spare ones too.
func smudge(labels, tolerate []api.Label, asks []api.Require) {
	for _, row := range [][]api.Label{labels, tolerate} {
		for i := range row[:cap(row)] {
			row[:cap(row)][i] = api.Label{Key: "smudged"}
		}
	}
	for i := range asks[:cap(asks)] {
		asks[:cap(asks)][i] = api.Require{Key: "smudged"}
	}
}

// P14.1 Next

// wantNext asks Next of a rich pod, and wants this phase and Since of it, and
// all else as it was.
func wantNext(t *testing.T, p api.Pod, now int64, there bool, phase int, since int64) {
	t.Helper()
	want := p
	want.Phase, want.Since = phase, since
	if got := Next(p, now, there); !reflect.DeepEqual(got, want) {
		t.Fatalf("Next(%+v, %d, %v): %+v, want %+v", p, now, there, got, want)
	}
}

func TestNextExample(t *testing.T) {
	p := rich(api.Bound, "n1", 5, 3)
	for now := int64(0); now < 8; now++ {
		wantNext(t, p, now, true, api.Bound, 5)
	}
	for now := int64(8); now < 20; now++ {
		wantNext(t, p, now, true, api.Ready, 8)
	}
}

func TestNextOfNoWarm(t *testing.T) {
	p := rich(api.Bound, "n1", 5, 0)
	wantNext(t, p, 4, true, api.Bound, 5) // not ahead of its Since
	wantNext(t, p, 5, true, api.Ready, 5)
	wantNext(t, p, 6, true, api.Ready, 5)
}

func TestNextWithoutItsNode(t *testing.T) {
	for _, phase := range phases {
		for _, now := range ticks {
			for _, since := range []int64{0, 5, 9} {
				p := rich(phase, "n1", since, 3)
				if phase == api.Failed {
					wantNext(t, p, now, false, api.Failed, since)
				} else {
					wantNext(t, p, now, false, api.Failed, now)
				}
			}
		}
	}
}

// TestNextOfNoNode: one that has no node isn't without a node of its own.
func TestNextOfNoNode(t *testing.T) {
	for _, there := range []bool{false, true} {
		for _, phase := range phases {
			p := rich(phase, "", 5, 3)
			wantNext(t, p, 7, there, phase, 5)
			if phase == api.Bound {
				wantNext(t, p, 8, there, api.Ready, 8)
			} else {
				wantNext(t, p, 8, there, phase, 5)
			}
		}
	}
}

func TestNextStays(t *testing.T) {
	for _, phase := range phases {
		if phase == api.Bound {
			continue
		}
		for _, now := range ticks {
			for _, warm := range warms {
				wantNext(t, rich(phase, "n1", 5, warm), now, true, phase, 5)
			}
		}
	}
}

// TestNextOfAnyNode: whether the node is there is told by there alone.
func TestNextOfAnyNode(t *testing.T) {
	for _, node := range append([]string{"n1", "x", "a-very-long-name"}, noNames[1:]...) {
		wantNext(t, rich(api.Ready, node, 5, 3), 9, true, api.Ready, 5)
		wantNext(t, rich(api.Ready, node, 5, 3), 9, false, api.Failed, 9)
	}
}

// TestNextAtTheEnds holds bound pods against numbers that don't go round.
func TestNextAtTheEnds(t *testing.T) {
	for _, since := range ticks {
		for _, warm := range warms {
			for _, now := range ticks {
				p := rich(api.Bound, "n1", since, warm)
				end := new(big.Int).Add(big.NewInt(since), big.NewInt(int64(warm)))
				switch {
				case end.Cmp(big.NewInt(now)) > 0:
					wantNext(t, p, now, true, api.Bound, since)
				case end.IsInt64():
					wantNext(t, p, now, true, api.Ready, end.Int64())
				default: // ahead of each tick that there is
					wantNext(t, p, now, true, api.Ready, math.MinInt64)
				}
			}
		}
	}
}

// TestNextTwice: one that got on at a tick stays at that tick.
func TestNextTwice(t *testing.T) {
	for _, phase := range phases {
		for _, node := range []string{"", "n1"} {
			for _, now := range ticks {
				for _, there := range []bool{false, true} {
					p := Next(rich(phase, node, 5, 3), now, there)
					wantNext(t, p, now, there, p.Phase, p.Since)
				}
			}
		}
	}
}

// TestNextMemory: what is handed in isn't changed, its spare room neither, and
// answers share no memory with it, nor with one another.
func TestNextMemory(t *testing.T) {
	for _, phase := range phases {
		for _, there := range []bool{false, true} {
			for _, now := range []int64{0, 9} {
				p := rich(phase, "n1", 5, 3)
				labels, asks, tolerate := room(p.Labels), room(p.Select), room(p.Tolerate)
				a, b := Next(p, now, there), Next(p, now, there)
				same(t, room(p.Labels), labels)
				same(t, room(p.Select), asks)
				same(t, room(p.Tolerate), tolerate)
				smudge(p.Labels, p.Tolerate, p.Select)
				same(t, a, b)
				was := Next(b, 0, true)
				was.Phase, was.Since = b.Phase, b.Since
				smudge(a.Labels, a.Tolerate, a.Select)
				same(t, b, was)
				same(t, b.Labels, labels[:2])
				same(t, b.Select, asks[:1])
				same(t, b.Tolerate, tolerate[:1])
			}
		}
	}
}

// TestNextOfOneRowTwice: rows that share memory in what is handed in share none
// in the answer.
func TestNextOfOneRowTwice(t *testing.T) {
	p := rich(api.Ready, "n1", 5, 3)
	p.Tolerate = p.Labels
	got := Next(p, 9, true)
	got.Labels[0].Key = "smudged"
	same(t, got.Tolerate, p.Labels)
	same(t, p.Labels[0].Key, "app")
}

func TestNextOfNothing(t *testing.T) {
	same(t, Next(api.Pod{}, 0, false), api.Pod{})
	empty := api.Pod{Labels: []api.Label{}, Select: []api.Require{}, Tolerate: []api.Label{}}
	got := Next(empty, 0, true)
	if len(got.Labels)+len(got.Select)+len(got.Tolerate) != 0 {
		t.Error(got)
	}
}

// P14.1 Made

func TestMade(t *testing.T) {
	for _, now := range ticks {
		for _, owner := range append([]string{"web", "a"}, noNames...) {
			w := load()
			want := api.Pod{Owner: owner, Phase: api.Pending, Since: now, Ask: api.Resources{CPU: 1000, Mem: 5},
				Labels: w.Labels, Select: w.Select, Tolerate: w.Tolerate, Warm: 7}
			same(t, Made(w, owner, now), want)
		}
	}
}

// TestMadeOfEachField: each field of a pod is that one of its workload, also
// what isn't right, and Replicas count for nothing.
func TestMadeOfEachField(t *testing.T) {
	labels := []api.Label{{Key: "b", Value: "-"}, {Key: "a"}, {Key: "a"}}
	asks := []api.Require{{Key: "-", Op: 9}, {}}
	same(t, Made(api.Workload{}, "", 0), api.Pod{})
	same(t, Made(api.Workload{Replicas: 5}, "web", 1), api.Pod{Owner: "web", Since: 1})
	same(t, Made(api.Workload{Ask: api.Resources{CPU: -1}}, "web", 0), api.Pod{Owner: "web", Ask: api.Resources{CPU: -1}})
	same(t, Made(api.Workload{Ask: api.Resources{Mem: 8}}, "web", 0), api.Pod{Owner: "web", Ask: api.Resources{Mem: 8}})
	same(t, Made(api.Workload{Labels: labels}, "web", 0), api.Pod{Owner: "web", Labels: labels})
	same(t, Made(api.Workload{Select: asks}, "web", 0), api.Pod{Owner: "web", Select: asks})
	same(t, Made(api.Workload{Tolerate: labels}, "web", 0), api.Pod{Owner: "web", Tolerate: labels})
	for _, warm := range warms {
		same(t, Made(api.Workload{Warm: warm}, "web", 0), api.Pod{Owner: "web", Warm: warm})
	}
}

// TestMadeMayBe: of a workload that may be each pod may be.
func TestMadeMayBe(t *testing.T) {
	same(t, valid.Check(api.Object{Kind: api.KindWorkload, Name: "web", Workload: load()}), api.OK)
	for _, now := range []int64{0, 1, api.MaxClock} {
		name, e := Name("web", 9999)
		same(t, e, api.OK)
		same(t, valid.Check(api.Object{Kind: api.KindPod, Name: name, Pod: Made(load(), "web", now)}), api.OK)
	}
}

func TestMadeMemory(t *testing.T) {
	w := load()
	w.Tolerate = w.Labels // of one row both are in new memory
	labels, asks := room(w.Labels), room(w.Select)
	a, b := Made(w, "web", 5), Made(w, "web", 5)
	same(t, room(w.Labels), labels)
	same(t, room(w.Select), asks)
	smudge(w.Labels, w.Tolerate, w.Select)
	same(t, a, b)
	a.Labels[0].Key = "smudged"
	same(t, a.Tolerate, labels[:2])
	smudge(a.Labels, a.Tolerate, a.Select)
	same(t, b.Labels, labels[:2])
	same(t, b.Tolerate, labels[:2])
	same(t, b.Select, asks[:1])
}

// P14.1 Name

func wantName(t *testing.T, owner string, n int, want string, wrong api.Errno) {
	t.Helper()
	if got, e := Name(owner, n); got != want || e != wrong {
		t.Fatalf("Name(%q, %d): %q, %d, want %q, %d", owner, n, got, e, want, wrong)
	}
}

func TestNameOfEachNumber(t *testing.T) {
	for _, owner := range []string{"app", "a", "0", "web-2", "a--b", strings.Repeat("z", 27)} {
		for n := range 10000 {
			wantName(t, owner, n, fmt.Sprintf("%s-%04d", owner, n), api.OK)
		}
	}
}

func TestNameOfNoNumber(t *testing.T) {
	for _, n := range []int{math.MinInt, -10000, -9999, -2, -1, 10000, 10001, 99999, 1 << 32, math.MaxInt} {
		for _, owner := range append([]string{"app", strings.Repeat("a", 28)}, noNames...) {
			wantName(t, owner, n, "", api.ErrArg) // ahead of ErrName
		}
	}
}

func TestNameOfNoOwner(t *testing.T) {
	for _, owner := range noNames {
		for _, n := range []int{0, 1, 42, 9999} {
			wantName(t, owner, n, "", api.ErrName)
		}
	}
}

// TestNameOfEachLength: an owner's name may be one, and its pods' be none.
func TestNameOfEachLength(t *testing.T) {
	for length := 1; length <= api.MaxName; length++ {
		owner := strings.Repeat("a", length)
		for _, n := range []int{0, 9999} {
			if length <= 27 {
				wantName(t, owner, n, owner+fmt.Sprintf("-%04d", n), api.OK)
			} else {
				wantName(t, owner, n, "", api.ErrName)
			}
		}
	}
}

// TestNameOfEachByte: each name that is told is one, of an owner that is one.
func TestNameOfEachByte(t *testing.T) {
	for b := range 256 {
		for _, owner := range []string{string([]byte{byte(b)}), string([]byte{'a', byte(b)}), string([]byte{'a', byte(b), 'a'}), string([]byte{byte(b), 'a'})} {
			if label.Name(owner) {
				wantName(t, owner, 30, owner+"-0030", api.OK)
			} else {
				wantName(t, owner, 30, "", api.ErrName)
			}
		}
	}
}

// P14.1 Number

func wantNumber(t *testing.T, owner, name string, want int, there bool) {
	t.Helper()
	if got, ok := Number(owner, name); got != want || ok != there {
		t.Fatalf("Number(%q, %q): %d, %v, want %d, %v", owner, name, got, ok, want, there)
	}
}

func TestNumberOfEachName(t *testing.T) {
	for _, owner := range []string{"app", "a", "0", "web-2", "a--b", "app-0001", strings.Repeat("z", 27)} {
		for n := range 10000 {
			wantNumber(t, owner, fmt.Sprintf("%s-%04d", owner, n), n, true)
		}
	}
}

func TestNumberOfNoName(t *testing.T) {
	for _, name := range []string{
		"", "-", "app", "app-", "app-0", "app-1", "app-12", "app-123", "app-00123", "app-12345", "app-00000", "app-10000",
		"app0123", "app--0123", "app--123", "app-+123", "app-0-12", "app- 123", "app-123 ", "app-0123 ", "app-0123-", " app-0123",
		"app-012a", "app-a123", "app-0x12", "app-1e10", "app-1_00", "app-12.0", "app-\u0661\u0662\u0663\u0664", "app-012\xff",
		"app-0123\x00", "App-0123", "APP-0123", "ap-0123", "apq-0123", "apple-0123", "xapp-0123", "-0123", "0123", "123",
		"app_0123", "app-0123-0045", "app-99999999999999999999", "app-" + strings.Repeat("0", 5000) + "123",
		"app-0123" + strings.Repeat("0", 5000), strings.Repeat("app-0123", 500),
	} {
		wantNumber(t, "app", name, 0, false)
	}
}

// TestNumberOfNoOwner: a text that Name wouldn't tell is no such name.
func TestNumberOfNoOwner(t *testing.T) {
	for _, owner := range append(noNames, strings.Repeat("a", 28), strings.Repeat("a", 32)) {
		for _, name := range []string{owner + "-0123", owner + "0123", owner, "-0123", "0123", ""} {
			wantNumber(t, owner, name, 0, false)
		}
	}
}

func TestNumberOfOthers(t *testing.T) {
	wantNumber(t, "app", "app-0001-0002", 0, false)
	wantNumber(t, "app-0001", "app-0001-0002", 2, true)
	wantNumber(t, "app-0001-0002", "app-0001-0002", 0, false)
	wantNumber(t, "app-0001", "app-0001", 0, false)
	wantNumber(t, "app", "app-0000", 0, true)
}

// TestNumberOfAny holds chance texts against all names that there are.
func TestNumberOfAny(t *testing.T) {
	owners := []string{"a", "a-0", "a-00", "-", "0", "a-", ""}
	numbers := map[string]map[string]int{}
	for _, owner := range owners {
		numbers[owner] = map[string]int{}
		for n := range 10000 {
			if name, e := Name(owner, n); e == api.OK {
				numbers[owner][name] = n
			}
		}
	}
	r := rand.New(rand.NewSource(1))
	found := 0
	for range 200000 {
		text := make([]byte, r.Intn(7))
		for i := range text {
			text[i] = "a-00001239+"[r.Intn(11)]
		}
		owner, name := owners[r.Intn(len(owners))], string(text)
		if r.Intn(3) > 0 {
			name = owner + "-" + name
		}
		n, ok := numbers[owner][name]
		wantNumber(t, owner, name, n, ok)
		if ok {
			found++
		}
	}
	if found < 1000 {
		t.Errorf("only %d names", found)
	}
}

// P14.2 Pass

func fresh(t *testing.T, most int) *store.Store {
	t.Helper()
	s, e := store.New(most)
	same(t, e, api.OK)
	return s
}

// create puts objects in.
func create(t *testing.T, s *store.Store, l ...api.Object) {
	t.Helper()
	for _, o := range l {
		if _, e := s.Create(o); e != api.OK {
			t.Fatalf("Create(%+v): %d", o, e)
		}
	}
}

func pod(name string, p api.Pod) api.Object {
	return api.Object{Kind: api.KindPod, Name: name, Pod: p}
}

func node(name string) api.Object {
	return api.Object{Kind: api.KindNode, Name: name, Node: api.Node{Size: api.Resources{CPU: 1000}}}
}

// others are objects of all kinds but pods and nodes, with a name.
func others(name string) []api.Object {
	size := api.Resources{CPU: 1000}
	return []api.Object{
		{Kind: api.KindWorkload, Name: name, Workload: load()},
		{Kind: api.KindGroup, Name: name, Group: api.Group{Min: 1, Max: 3, Target: 2, Size: size}},
		{Kind: api.KindHpa, Name: name, Hpa: api.Hpa{Target: "web", Min: 1, Max: 9, Metrics: []api.Metric{{Name: "cpu", Target: 500}}}},
	}
}

// see is all objects of a store.
func see(s *store.Store) []api.Object {
	var l []api.Object
	for kind := range api.Kinds {
		l = slices.AppendSeq(l, s.List(kind))
	}
	return l
}

// updated are events of pods by these names, from a version on.
func updated(from uint64, names ...string) []api.Event {
	var l []api.Event
	for i, name := range names {
		l = append(l, api.Event{Type: api.Updated, Kind: api.KindPod, Name: name, Version: from + uint64(i)})
	}
	return l
}

// wantPass has a pass, and wants these events of it, and that the store tells
// the same.
func wantPass(t *testing.T, s *store.Store, now int64, names ...string) {
	t.Helper()
	before := s.Now()
	want := updated(before+1, names...)
	got, e := Pass(s, now)
	if e != api.OK || !slices.Equal(got, want) {
		t.Fatalf("Pass at %d: %v, %d, want %v", now, got, e, want)
	}
	same(t, s.Now(), before+uint64(len(names)))
	kept, e := s.Since(before)
	same(t, e, api.OK)
	same(t, slices.Equal(kept, want), true)
}

// wantPod wants a pod with this phase and Since, and all else as it was.
func wantPod(t *testing.T, s *store.Store, was api.Object, version uint64, phase int, since int64) {
	t.Helper()
	got, ok := s.Get(api.KindPod, was.Name)
	was.Version, was.Pod.Phase, was.Pod.Since = version, phase, since
	same(t, ok, true)
	same(t, got, was)
}

// TestPass has pods of each phase on a node that is there, on one that isn't,
// and on none.
func TestPass(t *testing.T) {
	s := fresh(t, 20)
	create(t, s, node("n1"))
	l := []api.Object{
		pod("g", rich(api.Pending, "", 5, 3)),   // 2
		pod("f", rich(api.Bound, "n1", 5, 3)),   // 3
		pod("e", rich(api.Bound, "n1", 6, 3)),   // 4
		pod("d", rich(api.Bound, "gone", 5, 3)), // 5
		pod("c", rich(api.Ready, "n1", 5, 3)),   // 6
		pod("b", rich(api.Ready, "gone", 5, 3)), // 7
		pod("a", rich(api.Failed, "n1", 5, 3)),  // 8
		pod("i", rich(api.Failed, "gone", 5, 3)),
		pod("h", rich(api.Failed, "", 5, 3)),
		pod("0", rich(api.Bound, "n1", 0, 0)), // 11
	}
	create(t, s, l...)
	n1, _ := s.Get(api.KindNode, "n1")
	wantPass(t, s, 8, "0", "b", "d", "f")
	wantPod(t, s, l[0], 2, api.Pending, 5)
	wantPod(t, s, l[1], 15, api.Ready, 8)
	wantPod(t, s, l[2], 4, api.Bound, 6)
	wantPod(t, s, l[3], 14, api.Failed, 8)
	wantPod(t, s, l[4], 6, api.Ready, 5)
	wantPod(t, s, l[5], 13, api.Failed, 8)
	wantPod(t, s, l[6], 8, api.Failed, 5)
	wantPod(t, s, l[7], 9, api.Failed, 5)
	wantPod(t, s, l[8], 10, api.Failed, 5)
	wantPod(t, s, l[9], 12, api.Ready, 0)
	after, ok := s.Get(api.KindNode, "n1")
	same(t, ok, true)
	same(t, after, n1)
	wantPass(t, s, 9, "e")
	wantPod(t, s, l[2], 16, api.Ready, 9)
	same(t, s.Len(), 11)
}

func TestPassExample(t *testing.T) {
	s := fresh(t, 2)
	p := pod("web-0000", rich(api.Bound, "n1", 5, 3))
	create(t, s, node("n1"), p)
	for now := int64(0); now < 8; now++ {
		wantPass(t, s, now)
	}
	wantPass(t, s, 8, "web-0000")
	wantPod(t, s, p, 3, api.Ready, 8)
}

func TestPassErrors(t *testing.T) {
	s := fresh(t, 5)
	create(t, s, node("n1"), pod("a", rich(api.Bound, "n1", 0, 0)), pod("b", rich(api.Ready, "gone", 0, 0)))
	before := see(s)
	for _, now := range []int64{math.MinInt64, -api.MaxClock, -2, -1, api.MaxClock + 1, api.MaxClock + 2, math.MaxInt64} {
		for _, x := range []*store.Store{s, nil} {
			if l, e := Pass(x, now); l != nil || e != api.ErrArg {
				t.Errorf("Pass at %d: %v, %d", now, l, e)
			}
		}
		same(t, see(s), before)
		same(t, s.Now(), uint64(3))
	}
	for _, now := range ticks {
		if l, e := Pass(nil, now); l != nil || e != api.ErrArg {
			t.Errorf("Pass of nil at %d: %v, %d", now, l, e)
		}
	}
	wantPass(t, s, 0, "a", "b") // the first tick that may be
}

func TestPassAtTheLastTick(t *testing.T) {
	s := fresh(t, 9)
	l := []api.Object{
		pod("a", rich(api.Bound, "n1", api.MaxClock-1800, 1800)),
		pod("b", rich(api.Bound, "n1", api.MaxClock-1799, 1800)),
		pod("c", rich(api.Bound, "n1", api.MaxClock, 0)),
		pod("d", rich(api.Bound, "n1", api.MaxClock, 1)),
		pod("e", rich(api.Bound, "gone", api.MaxClock, 1800)),
		pod("f", rich(api.Bound, "n1", 0, 1800)),
	}
	create(t, s, l...)
	create(t, s, node("n1"))
	wantPass(t, s, api.MaxClock, "a", "c", "e", "f")
	wantPod(t, s, l[0], 8, api.Ready, api.MaxClock)
	wantPod(t, s, l[1], 2, api.Bound, api.MaxClock-1799)
	wantPod(t, s, l[2], 9, api.Ready, api.MaxClock)
	wantPod(t, s, l[3], 4, api.Bound, api.MaxClock)
	wantPod(t, s, l[4], 10, api.Failed, api.MaxClock)
	wantPod(t, s, l[5], 11, api.Ready, 1800)
}

// TestPassNodesAlone: what has the node's name, and isn't a node, is none; a
// closed node is one.
func TestPassNodesAlone(t *testing.T) {
	s := fresh(t, 20)
	create(t, s, others("n1")...)
	p := pod("n1", rich(api.Ready, "n1", 5, 3)) // it is called as its node
	create(t, s, p)
	closed := node("n2")
	closed.Node.Closed = true
	create(t, s, closed, pod("n2", rich(api.Ready, "n2", 5, 3)))
	before := see(s)
	wantPass(t, s, 9, "n1")
	wantPod(t, s, p, 7, api.Failed, 9)
	for i, o := range see(s) { // nothing else was changed
		if o.Kind != api.KindPod || o.Name != "n1" {
			same(t, o, before[i])
		}
	}
}

// TestPassBehindANodeThatGoes: its pods are Failed, and stay so if it comes again.
func TestPassBehindANodeThatGoes(t *testing.T) {
	s := fresh(t, 20)
	a, b := pod("a", rich(api.Bound, "n1", 5, 3)), pod("b", rich(api.Ready, "n2", 5, 3))
	create(t, s, node("n1"), node("n2"), a, b)
	wantPass(t, s, 6)
	s.Delete(api.KindNode, "n1", 0)
	wantPass(t, s, 7, "a")
	wantPod(t, s, a, 6, api.Failed, 7)
	create(t, s, node("n1"))
	wantPass(t, s, 20)
	s.Delete(api.KindNode, "n2", 0)
	wantPass(t, s, 20, "b")
	wantPod(t, s, b, 9, api.Failed, 20)
	wantPod(t, s, a, 6, api.Failed, 7)
}

// TestPassRises: by names, byte by byte, in whatever order they came.
func TestPassRises(t *testing.T) {
	rising := []string{"0", "00", "1", "10", "9", "a", "a--b", "a-b", "a0", "a00", "aa", "web", "web-0002", "web-0010", "web-1", "web0", "z", "zz"}
	r := rand.New(rand.NewSource(2))
	for range 50 {
		s := fresh(t, 50)
		create(t, s, node("n1"))
		for _, i := range r.Perm(len(rising)) {
			create(t, s, pod(rising[i], rich(api.Bound, []string{"n1", "gone"}[r.Intn(2)], 5, 3)))
		}
		wantPass(t, s, 9, rising...)
	}
}

func TestPassOfNoPods(t *testing.T) {
	s := fresh(t, 9)
	wantPass(t, s, 0)
	create(t, s, others("a")...)
	create(t, s, node("n1"))
	wantPass(t, s, api.MaxClock)
}

// TestPassOfFullStores: all pods of a store that is full, behind so many events
// that the first ones aren't kept any more.
func TestPassOfFullStores(t *testing.T) {
	for _, events := range []int{0, 500, 1024, 3000} {
		s := fresh(t, api.MaxObjects)
		create(t, s, node("n1"))
		for range events {
			o, _ := s.Get(api.KindNode, "n1")
			s.Update(o)
		}
		var names []string
		for i := range api.MaxObjects - 1 {
			name, _ := Name("web", i)
			create(t, s, pod(name, rich(api.Bound, "n1", 5, 3)))
			names = append(names, name)
		}
		wantPass(t, s, 7)
		wantPass(t, s, 8, names...)
		wantPass(t, s, 9)
		s.Delete(api.KindNode, "n1", 0)
		name, _ := Name("web", api.MaxObjects-1)
		create(t, s, pod(name, rich(api.Ready, "gone", 5, 3)))
		wantPass(t, s, 10, append(names, name)...)
		wantPass(t, s, 11)
		for o := range s.List(api.KindPod) {
			same(t, o.Pod.Phase, api.Failed)
			same(t, o.Pod.Since, int64(10))
		}
	}
}

// chance does something to a store of few nodes and pods.
func chance(r *rand.Rand, s *store.Store, now int64) {
	names := []string{"", "a", "b", "c"}
	name := names[1+r.Intn(3)]
	switch r.Intn(5) {
	case 0:
		s.Create(node(name))
	case 1:
		s.Delete(api.KindNode, name, 0)
	case 2:
		s.Delete(api.KindPod, name, 0)
	default: // such as may not be are refused
		o := pod(name, rich(r.Intn(4), names[r.Intn(4)], max(0, now-3+r.Int63n(6)), r.Intn(4)))
		if was, ok := s.Get(api.KindPod, name); ok && r.Intn(2) == 0 {
			o.Version = was.Version
			s.Update(o)
		} else {
			s.Create(o)
		}
	}
}

// changes is which pods of a store change at a tick, and to which phase and Since,
// by the chapter's words.
func changes(s *store.Store, now int64) map[string]api.Pod {
	nodes := map[string]int{}
	for o := range s.List(api.KindNode) {
		nodes[o.Name] = 1
	}
	m := map[string]api.Pod{}
	for o := range s.List(api.KindPod) {
		p := o.Pod
		if p.Phase == api.Failed {
			continue
		}
		if p.Node != "" && nodes[p.Node] == 0 {
			p.Phase, p.Since = api.Failed, now
			m[o.Name] = p
		} else if p.Phase == api.Bound && now-p.Since >= int64(p.Warm) {
			p.Phase, p.Since = api.Ready, p.Since+int64(p.Warm)
			m[o.Name] = p
		}
	}
	return m
}

// TestPassOfAny holds passes over chance stores against the chapter's words,
// and each pass against one behind it.
func TestPassOfAny(t *testing.T) {
	r := rand.New(rand.NewSource(3))
	s := fresh(t, 6)
	changed := 0
	for i := range 20000 {
		now := int64(i / 10)
		chance(r, s, now)
		if r.Intn(3) > 0 {
			continue
		}
		before, want := see(s), changes(s, now)
		var names []string
		for _, o := range before {
			if _, ok := want[o.Name]; ok && o.Kind == api.KindPod {
				names = append(names, o.Name)
			}
		}
		version := s.Now()
		wantPass(t, s, now, names...)
		for _, o := range before {
			if p, ok := want[o.Name]; ok && o.Kind == api.KindPod {
				version++
				changed++
				o.Version, o.Pod = version, p
			}
			after, ok := s.Get(o.Kind, o.Name)
			same(t, ok, true)
			same(t, after, o)
		}
		same(t, s.Len(), len(before))
		wantPass(t, s, now)
	}
	if changed < 1000 {
		t.Errorf("only %d changes", changed)
	}
}

// P14.3

// TestPassTwice: a pass behind a pass at the same tick changes nothing.
func TestPassTwice(t *testing.T) {
	for _, now := range []int64{0, 1, 5, 8, 1805, api.MaxClock} {
		s := fresh(t, 100)
		create(t, s, node("n1"))
		for i, phase := range []int{api.Bound, api.Ready, api.Failed} {
			for j, warm := range []int{0, 1, 3, 1800} {
				for k, on := range []string{"n1", "gone"} {
					create(t, s, pod("p"+strconv.Itoa(i*100+j*10+k), rich(phase, on, 5, warm)))
				}
			}
		}
		_, e := Pass(s, now)
		same(t, e, api.OK)
		before := see(s)
		for range 3 {
			wantPass(t, s, now)
			same(t, see(s), before)
		}
	}
}

// TestPassNowAndThen: while no node goes, one pass late leaves what passes at
// each tick leave.
func TestPassNowAndThen(t *testing.T) {
	s := fresh(t, 50)
	create(t, s, node("n1"))
	for i := range 20 {
		create(t, s, pod("p"+strconv.Itoa(i), rich(api.Bound, "n1", int64(i%7), i%5)))
	}
	late := s.Copy()
	for now := range int64(30) {
		Pass(s, now)
	}
	Pass(late, 29)
	a, b := see(s), see(late)
	for i := range a {
		a[i].Version, b[i].Version = 0, 0
	}
	same(t, a, b)
	for o := range s.List(api.KindPod) {
		same(t, o.Pod.Phase, api.Ready)
	}
}

// TestPassMemory: what is done to events that were told changes nothing, and a
// pass over a copy nothing of the store.
func TestPassMemory(t *testing.T) {
	s := fresh(t, 9)
	create(t, s, node("n1"), pod("a", rich(api.Bound, "n1", 5, 3)), pod("b", rich(api.Ready, "gone", 5, 3)))
	before := see(s)
	c := s.Copy()
	first, e := Pass(c, 8)
	same(t, e, api.OK)
	same(t, see(s), before)
	same(t, s.Now(), uint64(3))
	for i := range first[:cap(first)] {
		first[:cap(first)][i] = api.Event{Type: api.Deleted, Name: "smudged"}
	}
	kept, e := c.Since(3)
	same(t, e, api.OK)
	same(t, kept, updated(4, "a", "b"))
	wantPass(t, s, 8, "a", "b")
	same(t, see(s), see(c))
}
