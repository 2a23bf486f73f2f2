package watch

import (
	"math"
	"math/rand"
	"reflect"
	"slices"
	"strconv"
	"strings"
	"testing"

	"trimtab/api"
	"trimtab/store"
)

// noKinds are numbers that are no kind.
var noKinds = []int{math.MinInt, -256, -1, 5, 6, 256, 1 << 32, math.MaxInt}

// picks are kinds that a watch may be asked for, as they are handed in.
var picks = [][]int{
	nil, {}, {0}, {1}, {2}, {3}, {4}, {0, 4}, {4, 0}, {3, 1, 2}, {2, 2}, {1, 3, 1, 3, 3},
	{4, 3, 2, 1, 0}, {-1}, {5}, {-1, 2}, {2, 5, 0}, noKinds, append(slices.Clone(noKinds), 3),
}

// asked tells whether a watch of kinds looks for a kind.
func asked(kinds []int, kind int) bool { return len(kinds) == 0 || slices.Contains(kinds, kind) }

// object is one of a kind that may be, with something in rows of it.
func object(kind int, name string) api.Object {
	o := api.Object{Kind: kind, Name: name}
	ask := api.Resources{CPU: 1000, Mem: 5}
	labels := []api.Label{{Key: "zone", Value: "a"}}
	switch kind {
	case api.KindWorkload:
		o.Workload = api.Workload{Replicas: 2, Ask: ask, Labels: labels}
	case api.KindPod:
		o.Pod = api.Pod{Owner: "web", Ask: ask, Labels: labels}
	case api.KindNode:
		o.Node = api.Node{Size: ask, Labels: labels}
	case api.KindGroup:
		o.Group = api.Group{Min: 2, Max: 5, Target: 3, Size: ask, Labels: labels}
	case api.KindHpa:
		o.Hpa = api.Hpa{Target: "web", Min: 1, Max: 9, Metrics: []api.Metric{{Kind: api.ByPods, Name: "rps", Target: 100}}}
	}
	return o
}

func fresh(t *testing.T) *store.Store {
	t.Helper()
	s, e := store.New(api.MaxObjects)
	if e != api.OK {
		t.Fatal(e)
	}
	return s
}

// create puts objects in, of each kind one by one of some names.
func create(t *testing.T, s *store.Store, names ...string) {
	t.Helper()
	for kind := range api.Kinds {
		for _, name := range names {
			if _, e := s.Create(object(kind, name)); e != api.OK {
				t.Fatal(kind, name, e)
			}
		}
	}
}

// touch makes so many changes of one node.
func touch(t *testing.T, s *store.Store, changes int) {
	t.Helper()
	for range changes {
		o, there := s.Get(api.KindNode, "touched")
		e := api.OK
		if there {
			_, e = s.Update(o)
		} else {
			_, e = s.Create(object(api.KindNode, "touched"))
		}
		if e != api.OK {
			t.Fatal(e)
		}
	}
}

// chance is some change of a store: its event.
func chance(r *rand.Rand, s *store.Store) api.Event {
	kind, name := r.Intn(api.Kinds), string(rune('a'+r.Intn(3)))
	x := api.Event{Type: api.Created, Kind: kind, Name: name}
	if o, there := s.Get(kind, name); !there {
		x.Version, _ = s.Create(object(kind, name))
	} else if r.Intn(3) == 0 {
		x.Type = api.Deleted
		x.Version, _ = s.Delete(kind, name, 0)
	} else {
		x.Type = api.Updated
		x.Version, _ = s.Update(o)
	}
	return x
}

// events wants a row of events; nil and empty ones are the same.
func events(t *testing.T, got, want []api.Event) {
	t.Helper()
	if !slices.Equal(got, want) {
		t.Fatalf("got %+v, want %+v", got, want)
	}
}

// objects wants a row of objects; nil and empty ones are the same.
func objects(t *testing.T, got, want []api.Object) {
	t.Helper()
	if !slices.EqualFunc(got, want, func(a, b api.Object) bool { return reflect.DeepEqual(a, b) }) {
		t.Fatalf("got %+v, want %+v", got, want)
	}
}

// next wants a watch's next events, and its place behind them.
func next(t *testing.T, w *Watch, place uint64, want []api.Event) {
	t.Helper()
	got, e := w.Next()
	if e != api.OK {
		t.Fatalf("Next: %d", e)
	}
	events(t, got, want)
	at(t, w, place)
}

// refused wants an error of Next, nothing beside it, and that the place stays.
func refused(t *testing.T, w *Watch, want api.Errno) {
	t.Helper()
	place := w.Place()
	if got, e := w.Next(); e != want || len(got) != 0 {
		t.Fatalf("Next: %+v, %d, want error %d", got, e, want)
	}
	at(t, w, place)
}

func at(t *testing.T, w *Watch, place uint64) {
	t.Helper()
	if w.Place() != place {
		t.Fatalf("place %d, want %d", w.Place(), place)
	}
}

// ofKinds are those of a row of events that a watch of kinds looks for.
func ofKinds(l []api.Event, kinds []int) []api.Event {
	var got []api.Event
	for _, x := range l {
		if asked(kinds, x.Kind) {
			got = append(got, x)
		}
	}
	return got
}

// all are the objects of a store that a watch of kinds looks for.
func all(s *store.Store, kinds []int) []api.Object {
	var l []api.Object
	for kind := range api.Kinds {
		if asked(kinds, kind) {
			l = slices.AppendSeq(l, s.List(kind))
		}
	}
	return l
}

// P9.1, New and From

// TestNew: a watch from now on isn't told what was ahead of it.
func TestNew(t *testing.T) {
	for _, kinds := range picks {
		s := fresh(t)
		w := New(s, kinds...)
		at(t, w, 0)
		create(t, s, "a", "b")
		late := New(s, kinds...)
		at(t, late, 10)
		next(t, late, 10, nil)
		was, _ := s.Since(0)
		next(t, w, 10, ofKinds(was, kinds))
		next(t, w, 10, nil)
		create(t, s, "c")
		is, _ := s.Since(10)
		next(t, w, 15, ofKinds(is, kinds))
		next(t, late, 15, ofKinds(is, kinds))
	}
}

func TestFrom(t *testing.T) {
	for _, kinds := range picks {
		s := fresh(t)
		create(t, s, "a", "b")
		was, _ := s.Since(0)
		for version := range 11 {
			w := From(s, uint64(version), kinds...)
			at(t, w, uint64(version))
			next(t, w, 10, ofKinds(was[version:], kinds))
			next(t, w, 10, nil)
		}
	}
}

// TestFromAhead: a version that isn't there yet is waited for.
func TestFromAhead(t *testing.T) {
	s := fresh(t)
	w := From(s, 7, api.KindNode)
	at(t, w, 7)
	for range 6 {
		refused(t, w, api.ErrArg)
		touch(t, s, 1)
	}
	refused(t, w, api.ErrArg)
	touch(t, s, 1)
	next(t, w, 7, nil)
	touch(t, s, 1)
	next(t, w, 8, []api.Event{{Type: api.Updated, Kind: api.KindNode, Name: "touched", Version: 8}})
	for _, version := range []uint64{9, 10, 1032, 1 << 63, math.MaxUint64} {
		far := From(s, version)
		at(t, far, version)
		refused(t, far, api.ErrArg)
	}
}

func TestNilStore(t *testing.T) {
	for _, kinds := range picks {
		if w := New(nil, kinds...); w != nil {
			t.Error(w)
		}
		for _, version := range []uint64{0, 1, math.MaxUint64} {
			if w := From(nil, version, kinds...); w != nil {
				t.Error(w)
			}
		}
	}
}

func TestNilWatch(t *testing.T) {
	var w *Watch
	if l, e := w.Next(); len(l) != 0 || e != api.ErrArg {
		t.Error(l, e)
	}
	at(t, w, 0)
	objects(t, w.Again(), nil)
	at(t, w, 0)
}

// P9.1, Next

// TestNextOfOtherKinds: the place goes on though nothing is told.
func TestNextOfOtherKinds(t *testing.T) {
	s := fresh(t)
	w := New(s, api.KindPod)
	touch(t, s, 3)
	next(t, w, 3, nil)
	touch(t, s, 2)
	s.Create(object(api.KindPod, "p"))
	touch(t, s, 1)
	next(t, w, 7, []api.Event{{Type: api.Created, Kind: api.KindPod, Name: "p", Version: 6}})
	next(t, w, 7, nil)
}

// TestNextTypes: each type of change is told, with its own version.
func TestNextTypes(t *testing.T) {
	for kind := range api.Kinds {
		s := fresh(t)
		w, other := New(s, kind), New(s, (kind+1)%api.Kinds)
		s.Create(object(kind, "a"))
		o, _ := s.Get(kind, "a")
		s.Update(o)
		s.Delete(kind, "a", 0)
		s.Create(object(kind, "a"))
		next(t, w, 4, []api.Event{
			{Type: api.Created, Kind: kind, Name: "a", Version: 1},
			{Type: api.Updated, Kind: kind, Name: "a", Version: 2},
			{Type: api.Deleted, Kind: kind, Name: "a", Version: 3},
			{Type: api.Created, Kind: kind, Name: "a", Version: 4},
		})
		next(t, other, 4, nil)
	}
}

// TestNextGone: of 1024 events that are kept all are told, of one more none, and
// so it stays until the watch looks again.
func TestNextGone(t *testing.T) {
	for _, changes := range []int{1022, 1023, 1024, 1025, 1026, 2048, 3000} {
		s := fresh(t)
		create(t, s, "a")
		w, others := New(s, api.KindNode), New(s, api.KindPod)
		touch(t, s, changes)
		if changes <= api.MaxEvents {
			l, e := w.Next()
			if e != api.OK || len(l) != changes || l[0].Version != 6 || l[changes-1].Version != s.Now() {
				t.Fatal(changes, len(l), e)
			}
			next(t, others, s.Now(), nil)
			continue
		}
		for range 2 { // of other kinds too: nobody knows what the events were
			refused(t, w, api.ErrGone)
			refused(t, others, api.ErrGone)
			at(t, w, 5)
		}
		objects(t, w.Again(), all(s, []int{api.KindNode}))
		at(t, w, s.Now())
		next(t, w, s.Now(), nil)
		touch(t, s, 1)
		next(t, w, s.Now(), []api.Event{{Type: api.Updated, Kind: api.KindNode, Name: "touched", Version: s.Now()}})
		refused(t, others, api.ErrGone)
	}
}

// P9.1, Again

func TestAgain(t *testing.T) {
	rising := []string{"0", "00", "10", "9", "a", "a--b", "a-b", "a0", "aa", "web-2", "web10", "z"}
	s := fresh(t)
	for _, kinds := range picks {
		objects(t, New(s, kinds...).Again(), nil)
	}
	names := slices.Clone(rising)
	rand.New(rand.NewSource(1)).Shuffle(len(names), func(i, j int) { names[i], names[j] = names[j], names[i] })
	for i, name := range names { // what is of a kind comes mixed with other kinds
		for kind := range api.Kinds {
			s.Create(object((i+3*kind)%api.Kinds, name))
		}
	}
	for _, kinds := range picks {
		w := From(s, 3, kinds...)
		l := w.Again()
		objects(t, l, all(s, kinds))
		at(t, w, s.Now())
		next(t, w, s.Now(), nil)
		for i, o := range l {
			if o.Name != rising[i%len(rising)] || !asked(kinds, o.Kind) || i > 0 && o.Kind < l[i-1].Kind {
				t.Fatal(kinds, i, o)
			}
		}
		objects(t, w.Again(), l)
	}
}

// TestAgainFromAhead: a place that isn't there yet is now as well.
func TestAgainFromAhead(t *testing.T) {
	s := fresh(t)
	create(t, s, "a")
	w := From(s, 99, api.KindHpa)
	refused(t, w, api.ErrArg)
	objects(t, w.Again(), all(s, []int{api.KindHpa}))
	at(t, w, 5)
	next(t, w, 5, nil)
}

// TestAgainThenNext: what Again told of isn't told by Next, what comes behind is.
func TestAgainThenNext(t *testing.T) {
	s := fresh(t)
	w := New(s)
	create(t, s, "a")
	objects(t, w.Again(), all(s, nil))
	s.Delete(api.KindPod, "a", 0)
	next(t, w, 6, []api.Event{{Type: api.Deleted, Kind: api.KindPod, Name: "a", Version: 6}})
	objects(t, w.Again(), all(s, nil))
	if len(w.Again()) != 4 {
		t.Error(w.Again())
	}
}

// P9.2

// history is a row of events of one thing, in versions from 1 on: "cud" is
// created, updated, deleted, "?" a type that is none.
func history(kind int, name, types string) []api.Event {
	var l []api.Event
	for i, x := range types {
		event := api.Event{Type: strings.IndexRune("cud", x), Kind: kind, Name: name, Version: uint64(i + 1)}
		if x == '?' {
			event.Type = 3 + i
		}
		l = append(l, event)
	}
	return l
}

func TestFoldedOfOne(t *testing.T) {
	for types, want := range map[string]int{
		"c": api.Created, "u": api.Updated, "d": api.Deleted,
		"cu": api.Created, "dc": api.Updated, "cd": -1, "ud": api.Deleted, "uu": api.Updated,
		"cuu": api.Created, "cuuuu": api.Created, "cud": -1, "uuu": api.Updated, "uud": api.Deleted,
		"cdc": api.Created, "cdcu": api.Created, "cdcd": -1, "cudcud": -1, "cudcudc": api.Created, "cdcdcu": api.Created,
		"dcu": api.Updated, "dcd": api.Deleted, "dcud": api.Deleted, "dcdc": api.Updated, "dcdcu": api.Updated, "dcudcud": api.Deleted,
		"udc": api.Updated, "udcu": api.Updated, "udcd": api.Deleted, "uudcuudc": api.Updated, "udcudcud": api.Deleted,
		"?": api.Updated, "c?": api.Created, "?d": api.Deleted, "??": api.Updated, "c??": api.Created, "c?d": -1,
		"dc?": api.Updated, "?dc": api.Updated, "u?": api.Updated, "?u": api.Updated, "?dc?d": api.Deleted,
	} {
		for _, kind := range append([]int{0, 1, 4}, noKinds...) {
			for _, name := range []string{"", "a", strings.Repeat("z", 100), "\x00\xff"} {
				var wanted []api.Event
				if want >= 0 {
					wanted = []api.Event{{Type: want, Kind: kind, Name: name, Version: uint64(len(types))}}
				}
				events(t, Folded(history(kind, name, types)), wanted)
			}
		}
	}
}

// TestFoldedOfNoType: each number that is no type counts as Updated.
func TestFoldedOfNoType(t *testing.T) {
	for _, change := range []int{math.MinInt, -256, -2, -1, 3, 4, 256, 1 << 32, 1<<32 + 2, math.MaxInt} {
		a := api.Event{Type: change, Kind: 1, Name: "a", Version: 5}
		created := api.Event{Type: api.Created, Kind: 1, Name: "a", Version: 4}
		deleted := api.Event{Type: api.Deleted, Kind: 1, Name: "a", Version: 6}
		events(t, Folded([]api.Event{a}), []api.Event{{Type: api.Updated, Kind: 1, Name: "a", Version: 5}})
		events(t, Folded([]api.Event{created, a}), []api.Event{{Type: api.Created, Kind: 1, Name: "a", Version: 5}})
		events(t, Folded([]api.Event{a, deleted}), []api.Event{deleted})
		events(t, Folded([]api.Event{created, a, deleted}), nil)
	}
}

func TestFoldedOfNone(t *testing.T) {
	events(t, Folded(nil), nil)
	events(t, Folded([]api.Event{}), nil)
	if l := Folded([]api.Event{{}}); len(l) != 1 || l[0] != (api.Event{}) {
		t.Error(l)
	}
}

// TestFoldedOfMany: a thing is a kind and a name, and they rise by the last
// event's version, not by the first one's, by kinds or by names.
func TestFoldedOfMany(t *testing.T) {
	events(t, Folded([]api.Event{
		{Type: api.Created, Kind: 1, Name: "z", Version: 1},
		{Type: api.Updated, Kind: 2, Name: "z", Version: 2},
		{Type: api.Deleted, Kind: 1, Name: "a", Version: 3},
		{Type: api.Created, Kind: 0, Name: "z", Version: 4},
		{Type: api.Deleted, Kind: 2, Name: "z", Version: 5},
		{Type: api.Created, Kind: 2, Name: "a", Version: 6},
		{Type: api.Deleted, Kind: 0, Name: "z", Version: 7},
		{Type: api.Updated, Kind: 1, Name: "z", Version: 8},
		{Type: api.Created, Kind: 1, Name: "a", Version: 9},
	}), []api.Event{
		{Type: api.Deleted, Kind: 2, Name: "z", Version: 5},
		{Type: api.Created, Kind: 2, Name: "a", Version: 6},
		{Type: api.Created, Kind: 1, Name: "z", Version: 8},
		{Type: api.Updated, Kind: 1, Name: "a", Version: 9},
	})
}

// TestFoldedRises: events of things apart may come in any order, and with
// versions at their ends.
func TestFoldedRises(t *testing.T) {
	versions := []uint64{0, 1, 2, 9, 10, 1 << 31, 1 << 32, math.MaxInt64, 1 << 63, math.MaxUint64 - 1, math.MaxUint64}
	var want []api.Event
	for i, version := range versions {
		want = append(want, api.Event{Type: i % 3, Kind: -i, Name: strconv.Itoa(i * 7 % 11), Version: version})
	}
	r := rand.New(rand.NewSource(2))
	for range 50 {
		l := slices.Clone(want)
		r.Shuffle(len(l), func(i, j int) { l[i], l[j] = l[j], l[i] })
		events(t, Folded(l), want)
	}
}

// TestFoldedByOrder: which event is the last one is told by their order, not by
// their versions.
func TestFoldedByOrder(t *testing.T) {
	events(t, Folded([]api.Event{
		{Type: api.Created, Kind: 1, Name: "a", Version: 9},
		{Type: api.Updated, Kind: 1, Name: "b", Version: 5},
		{Type: api.Updated, Kind: 1, Name: "a", Version: 3},
	}), []api.Event{
		{Type: api.Created, Kind: 1, Name: "a", Version: 3},
		{Type: api.Updated, Kind: 1, Name: "b", Version: 5},
	})
}

// seen is which version each thing has in a store.
func seen(s *store.Store) map[api.Event]uint64 {
	m := map[api.Event]uint64{}
	for _, o := range all(s, nil) {
		m[api.Event{Kind: o.Kind, Name: o.Name}] = o.Version
	}
	return m
}

// TestFoldedOfAStore holds folded events against what a store has at their ends.
func TestFoldedOfAStore(t *testing.T) {
	r := rand.New(rand.NewSource(3))
	s := fresh(t)
	w := New(s)
	for range 300 {
		was := seen(s)
		for range r.Intn(40) {
			chance(r, s)
		}
		l, _ := w.Next()
		want := map[api.Event]bool{}
		is := seen(s)
		for x, version := range is {
			change := api.Created
			if old, there := was[x]; there {
				change = api.Updated
				if version == old {
					continue
				}
			}
			want[api.Event{Type: change, Kind: x.Kind, Name: x.Name, Version: version}] = true
		}
		for x := range was {
			if _, there := is[x]; !there {
				want[lastOf(l, x)] = true
			}
		}
		got := Folded(l)
		for i, x := range got {
			if !want[x] || i > 0 && x.Version <= got[i-1].Version {
				t.Fatalf("%+v of %+v", got, l)
			}
		}
		if len(got) != len(want) {
			t.Fatalf("got %+v, want %+v", got, want)
		}
	}
}

// lastOf is the last event of a thing in a row, as one that it went by.
func lastOf(l []api.Event, x api.Event) api.Event {
	for _, event := range slices.Backward(l) {
		if event.Kind == x.Kind && event.Name == x.Name {
			return api.Event{Type: api.Deleted, Kind: x.Kind, Name: x.Name, Version: event.Version}
		}
	}
	return api.Event{}
}

// P9.3

// TestNoneTwiceNoneLeftOut has many watches of one store, that look at times of
// their own: together their answers are all events of their kinds.
func TestNoneTwiceNoneLeftOut(t *testing.T) {
	r := rand.New(rand.NewSource(4))
	s := fresh(t)
	var made []api.Event
	told := make([][]api.Event, len(picks))
	watches := make([]*Watch, len(picks))
	for i, kinds := range picks {
		watches[i] = New(s, kinds...)
	}
	for range 3000 {
		made = append(made, chance(r, s))
		for i, w := range watches {
			if r.Intn(50*i+1) > 0 && w.Place()+api.MaxEvents > s.Now() {
				continue
			}
			l, e := w.Next()
			if e != api.OK {
				t.Fatal(e)
			}
			told[i] = append(told[i], l...)
			at(t, w, s.Now())
		}
	}
	for i, w := range watches {
		l, _ := w.Next()
		events(t, append(told[i], l...), ofKinds(made, picks[i]))
	}
}

// TestWatchesApart: what one is told isn't lost for another one.
func TestWatchesApart(t *testing.T) {
	s := fresh(t)
	a, b := New(s), New(s)
	create(t, s, "a")
	l, _ := s.Since(0)
	next(t, a, 5, l)
	at(t, b, 0)
	objects(t, a.Again(), all(s, nil))
	next(t, b, 5, l)
}

// TestStoreStays: a watch changes nothing of its store.
func TestStoreStays(t *testing.T) {
	s := fresh(t)
	create(t, s, "a", "b")
	c := s.Copy()
	w := From(s, 2, api.KindPod)
	w.Next()
	w.Again()
	From(s, 99).Next()
	objects(t, all(s, nil), all(c, nil))
	got, _ := s.Since(0)
	want, _ := c.Since(0)
	events(t, got, want)
	if s.Now() != c.Now() || s.Len() != c.Len() {
		t.Error(s.Now(), s.Len())
	}
}

// TestKindsHandedIn: neither are they changed, nor are they kept.
func TestKindsHandedIn(t *testing.T) {
	s := fresh(t)
	room := []int{4, 1, 4, 7, 0, 2}
	kinds := room[:3]
	now, from := New(s, kinds...), From(s, 0, kinds...)
	if !slices.Equal(room, []int{4, 1, 4, 7, 0, 2}) {
		t.Fatal(room)
	}
	for i := range room {
		room[i] = api.KindNode
	}
	create(t, s, "a")
	l, _ := s.Since(0)
	for _, w := range []*Watch{now, from} {
		next(t, w, 5, ofKinds(l, []int{1, 4}))
		objects(t, w.Again(), all(s, []int{1, 4}))
	}
	if !slices.Equal(room, []int{2, 2, 2, 2, 2, 2}) {
		t.Fatal(room)
	}
}

// TestEventsHandedIn: neither are they changed, their spare room neither, nor
// does the answer share any.
func TestEventsHandedIn(t *testing.T) {
	for _, types := range []string{"c", "cu", "cd", "u?", "dcu", "?"} {
		l := history(1, "a", types)
		l = append(l, history(2, "b", types)...)
		room := append(slices.Clone(l), api.Event{Name: "spare", Version: 77})
		given := room[:len(l)]
		folded := Folded(given)
		kept := slices.Clone(folded)
		events(t, room, append(slices.Clone(l), api.Event{Name: "spare", Version: 77}))
		for i := range room {
			room[i] = api.Event{Name: "wiped"}
		}
		events(t, folded, kept)
		for i := range folded[:cap(folded)] {
			folded[:cap(folded)][i] = api.Event{Name: "other"}
		}
		for _, x := range room {
			if x.Name != "wiped" {
				t.Fatal(room)
			}
		}
	}
}

// TestMemoryOfAnswers spoils what was answered, with its spare room: neither
// what the watch tells then, nor the store, nor another answer is another one.
func TestMemoryOfAnswers(t *testing.T) {
	s := fresh(t)
	w, twin := New(s), New(s)
	create(t, s, "a", "b")
	want, _ := s.Since(0)
	got, _ := w.Next()
	other, _ := twin.Next()
	for i := range got[:cap(got)] {
		got[:cap(got)][i] = api.Event{Name: "spoilt"}
	}
	events(t, other, want)
	kept, _ := s.Since(0)
	events(t, kept, want)
	whole := all(s, nil)
	l, again := w.Again(), w.Again()
	for i := range l {
		for _, labels := range [][]api.Label{l[i].Workload.Labels, l[i].Pod.Labels, l[i].Node.Labels, l[i].Group.Labels} {
			clear(labels)
		}
		clear(l[i].Hpa.Metrics)
		clear(l[i].Hpa.Up.Policies)
	}
	clear(l[:cap(l)])
	objects(t, again, whole)
	objects(t, all(s, nil), whole)
	touch(t, s, 1)
	next(t, w, 11, []api.Event{{Type: api.Created, Kind: api.KindNode, Name: "touched", Version: 11}})
}
