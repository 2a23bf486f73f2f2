package store

import (
	"math"
	"math/rand"
	"reflect"
	"slices"
	"strconv"
	"strings"
	"testing"

	"trimtab/api"
	"trimtab/valid"
)

// noKinds are numbers that are no kind.
var noKinds = []int{math.MinInt, -256, -1, 5, 6, 256, 1 << 32, math.MaxInt}

// plain is an object of a kind that may be, and has no rows.
func plain(kind int, name string) api.Object {
	o := api.Object{Kind: kind, Name: name}
	ask := api.Resources{CPU: 1000, Mem: 5}
	switch kind {
	case api.KindWorkload:
		o.Workload = api.Workload{Replicas: 2, Ask: ask}
	case api.KindPod:
		o.Pod = api.Pod{Owner: "web", Ask: ask}
	case api.KindNode:
		o.Node = api.Node{Size: ask}
	case api.KindGroup:
		o.Group = api.Group{Min: 2, Max: 5, Target: 3, Size: ask}
	case api.KindHpa:
		o.Hpa = api.Hpa{Target: "web", Min: 1, Max: 9,
			Up: api.Behavior{Pick: api.PickNone}, Down: api.Behavior{Pick: api.PickNone}}
		o.Hpa.Metrics = []api.Metric{{Kind: api.ByPods, Name: "rps", Target: 100}}
	}
	return o
}

// rich is an object of a kind with something in each row, and with spare room
// in it.
func rich(kind int, name string) api.Object {
	o := plain(kind, name)
	labels := func() []api.Label { return append(make([]api.Label, 0, 8), api.Label{Key: "zone", Value: "a"}) }
	asks := func() []api.Require { return append(make([]api.Require, 0, 8), api.Require{Key: "zone", Value: "a"}) }
	policies := func() []api.Policy { return append(make([]api.Policy, 0, 8), api.Policy{Value: 1, Period: 7}) }
	switch kind {
	case api.KindWorkload:
		o.Workload.Labels, o.Workload.Select, o.Workload.Tolerate = labels(), asks(), labels()
	case api.KindPod:
		o.Pod.Labels, o.Pod.Select, o.Pod.Tolerate = labels(), asks(), labels()
	case api.KindNode:
		o.Node.Labels, o.Node.Taints = labels(), labels()
	case api.KindGroup:
		o.Group.Labels, o.Group.Taints = labels(), labels()
	case api.KindHpa:
		o.Hpa.Up.Policies, o.Hpa.Down.Policies = policies(), policies()
		o.Hpa.Past = append(make([]api.Scaled, 0, 8), api.Scaled{At: 3, From: 1, To: 2})
	}
	return o
}

// bare is an Hpa that is to have defaults.
func bare(name string) api.Object {
	o := plain(api.KindHpa, name)
	o.Hpa.Up.Pick, o.Hpa.Down.Pick = api.PickMax, api.PickMin
	return o
}

// poor are objects of which Check tells an error, with it.
func poor() map[api.Errno][]api.Object {
	bad := map[api.Errno][]api.Object{}
	for _, kind := range noKinds {
		bad[api.ErrKind] = append(bad[api.ErrKind], api.Object{Kind: kind}, api.Object{Kind: kind, Name: "a"})
	}
	for kind := range api.Kinds {
		for _, name := range []string{"", "-a", "A", "a b", strings.Repeat("a", 33)} {
			bad[api.ErrName] = append(bad[api.ErrName], plain(kind, name), api.Object{Kind: kind, Name: name})
		}
		mixed := plain(kind, "a")
		if kind == api.KindNode {
			mixed.Pod.Warm = 1
		} else {
			mixed.Node.Closed = true
		}
		bad[api.ErrForm] = append(bad[api.ErrForm], api.Object{Kind: kind, Name: "a"}, mixed)
	}
	crossed := plain(api.KindGroup, "a")
	crossed.Group.Min, crossed.Group.Max = 7, 4
	bad[api.ErrForm] = append(bad[api.ErrForm], crossed)
	return bad
}

func fresh(t *testing.T, most int) *Store {
	t.Helper()
	s, e := New(most)
	if s == nil || e != api.OK {
		t.Fatalf("New(%d): %v, %d", most, s, e)
	}
	return s
}

// done wants a change's version, and that no error came beside it.
func done(t *testing.T, v uint64, e api.Errno, want uint64) {
	t.Helper()
	if v != want || e != api.OK {
		t.Fatalf("got %d, %d, want %d, OK", v, e, want)
	}
}

func same(t *testing.T, got, want any) {
	t.Helper()
	if !reflect.DeepEqual(got, want) {
		t.Fatalf("got %+v, want %+v", got, want)
	}
}

// create puts objects in.
func create(t *testing.T, s *Store, l ...api.Object) {
	t.Helper()
	for _, o := range l {
		v, e := s.Create(o)
		done(t, v, e, s.Now())
	}
}

// names are what a store tells of a kind.
func names(s *Store, kind int) []string {
	var l []string
	for o := range s.List(kind) {
		l = append(l, o.Name)
	}
	return l
}

// sight is all that a store tells of itself.
type sight struct {
	Len     int
	Now     uint64
	Objects []api.Object
	Events  []api.Event
	Gone    uint64 // up to which version events aren't kept
}

func see(s *Store) sight {
	x := sight{Len: s.Len(), Now: s.Now()}
	for kind := range api.Kinds {
		x.Objects = slices.AppendSeq(x.Objects, s.List(kind))
	}
	for ; x.Gone <= x.Now; x.Gone++ {
		if l, e := s.Since(x.Gone); e == api.OK {
			x.Events = l
			break
		}
	}
	return x
}

// refused wants an error, nothing beside it, and a store that is as it was.
func refused(t *testing.T, s *Store, call func() (uint64, api.Errno), want api.Errno) {
	t.Helper()
	before := see(s)
	if v, e := call(); v != 0 || e != want {
		t.Fatalf("got %d, %d, want 0, %d", v, e, want)
	}
	same(t, see(s), before)
}

// P8.1, New

func TestNew(t *testing.T) {
	for _, most := range []int{math.MinInt, -512, -1, 0, 513, 1024, 1<<32 + 1, math.MaxInt} {
		if s, e := New(most); s != nil || e != api.ErrArg {
			t.Errorf("New(%d): %v, %d", most, s, e)
		}
	}
	for most := 1; most <= api.MaxObjects; most++ {
		same(t, see(fresh(t, most)), sight{})
	}
}

// TestMost fills stores: so many go in and not one more, of whatever kinds.
func TestMost(t *testing.T) {
	for _, most := range []int{1, 2, 3, 511, 512} {
		s := fresh(t, most)
		for i := range most {
			create(t, s, plain(i%api.Kinds, "a"+strconv.Itoa(i)))
		}
		c := s.Copy()
		for kind := range api.Kinds {
			refused(t, s, func() (uint64, api.Errno) { return s.Create(plain(kind, "b")) }, api.ErrFull)
			refused(t, c, func() (uint64, api.Errno) { return c.Create(plain(kind, "b")) }, api.ErrFull)
		}
		// What is there may still be changed, and one that goes makes room for one.
		o, _ := s.Get(api.KindWorkload, "a0")
		v, e := s.Update(o)
		done(t, v, e, uint64(most+1))
		v, e = s.Delete(api.KindWorkload, "a0", 0)
		done(t, v, e, uint64(most+2))
		create(t, s, plain(api.KindPod, "b"))
		refused(t, s, func() (uint64, api.Errno) { return s.Create(plain(api.KindPod, "c")) }, api.ErrFull)
		same(t, s.Len(), most)
	}
}

// P8.1, Create

func TestCreate(t *testing.T) {
	s := fresh(t, 10)
	for kind := range api.Kinds {
		o := rich(kind, "a")
		o.Version = []uint64{0, 1, 7, 1 << 40, math.MaxUint64}[kind] // it counts for nothing
		v, e := s.Create(o)
		done(t, v, e, uint64(kind+1))
		o.Version = v
		got, ok := s.Get(kind, "a")
		same(t, ok, true)
		same(t, got, o)
	}
	same(t, s.Len(), 5)
}

func TestCreateDefaults(t *testing.T) {
	s := fresh(t, 10)
	for i, target := range []int{math.MinInt, -1, 0, 1, 2, 3, 5, 6, math.MaxInt} {
		o := plain(api.KindGroup, "g"+strconv.Itoa(i))
		o.Group.Target = target
		create(t, s, o)
		got, _ := s.Get(api.KindGroup, o.Name)
		o.Group.Target, o.Version = min(max(target, 2), 5), uint64(i+1)
		same(t, got, o)
	}
	create(t, s, bare("h"))
	got, _ := s.Get(api.KindHpa, "h")
	want := valid.Default(bare("h"))
	want.Version = 10
	same(t, got, want)
	same(t, len(got.Hpa.Up.Policies), 2)
	same(t, len(got.Hpa.Down.Policies), 1)
}

// TestCreateErrors has a store that is full of what is to be created, so that
// each error comes ahead of those that the chapter names behind it.
func TestCreateErrors(t *testing.T) {
	for kind := range api.Kinds {
		s, empty := fresh(t, 1), fresh(t, 1)
		create(t, s, plain(kind, "a"))
		for want, bad := range poor() {
			for _, o := range bad {
				refused(t, s, func() (uint64, api.Errno) { return s.Create(o) }, want)
				refused(t, empty, func() (uint64, api.Errno) { return empty.Create(o) }, want)
			}
		}
		refused(t, s, func() (uint64, api.Errno) { return s.Create(plain(kind, "a")) }, api.ErrSame)
		refused(t, s, func() (uint64, api.Errno) { return s.Create(rich(kind, "a")) }, api.ErrSame)
		refused(t, s, func() (uint64, api.Errno) { return s.Create(plain(kind, "b")) }, api.ErrFull)
		refused(t, s, func() (uint64, api.Errno) { return s.Create(plain((kind+1)%api.Kinds, "a")) }, api.ErrFull)
	}
}

// TestCreateOfOtherKinds: a name may stand once in each kind.
func TestCreateOfOtherKinds(t *testing.T) {
	s := fresh(t, 5)
	for kind := range api.Kinds {
		create(t, s, plain(kind, "a"))
		refused(t, s, func() (uint64, api.Errno) { return s.Create(plain(kind, "a")) }, api.ErrSame)
	}
	for kind := range api.Kinds {
		same(t, names(s, kind), []string{"a"})
	}
}

// P8.1, Update

func TestUpdate(t *testing.T) {
	s := fresh(t, 10)
	for kind := range api.Kinds {
		create(t, s, plain(kind, "a"), plain(kind, "b"))
	}
	for kind := range api.Kinds {
		other, _ := s.Get(kind, "b")
		o := rich(kind, "a")
		o.Version = uint64(2*kind + 1)
		v, e := s.Update(o)
		done(t, v, e, uint64(11+kind))
		o.Version = v
		got, _ := s.Get(kind, "a")
		same(t, got, o)
		got, _ = s.Get(kind, "b")
		same(t, got, other)
	}
	same(t, s.Len(), 10)
}

// TestUpdateOfTheSame: an object that is as it was is a change too.
func TestUpdateOfTheSame(t *testing.T) {
	s := fresh(t, 1)
	create(t, s, rich(api.KindNode, "a"))
	for i := range 5 {
		o, _ := s.Get(api.KindNode, "a")
		v, e := s.Update(o)
		done(t, v, e, uint64(i+2))
	}
	l, e := s.Since(5)
	same(t, e, api.OK)
	same(t, l, []api.Event{{Type: api.Updated, Kind: api.KindNode, Name: "a", Version: 6}})
}

func TestUpdateDefaults(t *testing.T) {
	s := fresh(t, 2)
	create(t, s, plain(api.KindGroup, "g"), plain(api.KindHpa, "h"))
	g, _ := s.Get(api.KindGroup, "g")
	g.Group.Max, g.Group.Target = 4, 9
	v, e := s.Update(g)
	done(t, v, e, 3)
	got, _ := s.Get(api.KindGroup, "g")
	g.Version, g.Group.Target = 3, 4
	same(t, got, g)
	h := bare("h")
	h.Version = 2
	v, e = s.Update(h)
	done(t, v, e, 4)
	got, _ = s.Get(api.KindHpa, "h")
	h = valid.Default(h)
	h.Version = 4
	same(t, got, h)
}

func TestUpdateExample(t *testing.T) {
	s := fresh(t, 1)
	o := plain(api.KindWorkload, "a")
	v, e := s.Create(o)
	done(t, v, e, 1)
	o.Version = 1
	v, e = s.Update(o)
	done(t, v, e, 2)
	refused(t, s, func() (uint64, api.Errno) { return s.Update(o) }, api.ErrVersion)
}

func TestUpdateErrors(t *testing.T) {
	s := fresh(t, 4)
	create(t, s, plain(api.KindWorkload, "x"), plain(api.KindNode, "a"))
	for want, bad := range poor() {
		for _, o := range bad { // Check comes ahead of ErrNone and ErrVersion
			for _, o.Version = range []uint64{0, 1, 2, 99} {
				refused(t, s, func() (uint64, api.Errno) { return s.Update(o) }, want)
			}
		}
	}
	for _, version := range []uint64{0, 1, 2, 3, math.MaxUint64} { // ErrNone comes ahead of ErrVersion
		for _, o := range []api.Object{plain(api.KindNode, "x"), plain(api.KindWorkload, "a"), plain(api.KindPod, "a")} {
			o.Version = version
			refused(t, s, func() (uint64, api.Errno) { return s.Update(o) }, api.ErrNone)
		}
		o := plain(api.KindNode, "a")
		o.Version = version
		if version != 2 { // 0 is no version either
			refused(t, s, func() (uint64, api.Errno) { return s.Update(o) }, api.ErrVersion)
		}
	}
	v, e := s.Delete(api.KindNode, "a", 2)
	done(t, v, e, 3)
	o := plain(api.KindNode, "a")
	o.Version = 2
	refused(t, s, func() (uint64, api.Errno) { return s.Update(o) }, api.ErrNone)
}

// P8.1, Delete

func TestDelete(t *testing.T) {
	for kind := range api.Kinds {
		for _, version := range []uint64{0, 2} { // of any version, and of its own
			s := fresh(t, 10)
			create(t, s, plain((kind+1)%api.Kinds, "a"), plain(kind, "a"), plain(kind, "b"))
			v, e := s.Delete(kind, "a", version)
			done(t, v, e, 4)
			if o, ok := s.Get(kind, "a"); ok || !reflect.DeepEqual(o, api.Object{}) {
				t.Fatal(o, ok)
			}
			same(t, names(s, kind), []string{"b"})
			same(t, names(s, (kind+1)%api.Kinds), []string{"a"})
			same(t, s.Len(), 2)
			v, e = s.Create(plain(kind, "a")) // it may come again, with a new version
			done(t, v, e, 5)
			refused(t, s, func() (uint64, api.Errno) { return s.Delete(kind, "a", 2) }, api.ErrVersion)
		}
	}
}

func TestDeleteErrors(t *testing.T) {
	s := fresh(t, 10)
	for kind := range api.Kinds {
		create(t, s, plain(kind, "a"))
	}
	for _, name := range []string{"a", "b", "", "A"} {
		for _, version := range []uint64{0, 1, 3, 99} {
			for _, kind := range noKinds {
				refused(t, s, func() (uint64, api.Errno) { return s.Delete(kind, name, version) }, api.ErrKind)
			}
			for kind := range api.Kinds {
				if name != "a" {
					refused(t, s, func() (uint64, api.Errno) { return s.Delete(kind, name, version) }, api.ErrNone)
				} else if version != 0 && version != uint64(kind+1) {
					refused(t, s, func() (uint64, api.Errno) { return s.Delete(kind, name, version) }, api.ErrVersion)
				}
			}
		}
	}
	refused(t, s, func() (uint64, api.Errno) { return s.Delete(api.KindPod, "a", math.MaxUint64) }, api.ErrVersion)
	v, e := s.Delete(api.KindPod, "a", 0)
	done(t, v, e, 6)
	refused(t, s, func() (uint64, api.Errno) { return s.Delete(api.KindPod, "a", 0) }, api.ErrNone)
	refused(t, s, func() (uint64, api.Errno) { return s.Delete(api.KindPod, "a", 2) }, api.ErrNone)
}

// P8.2, Get and List

func TestGetOfNone(t *testing.T) {
	s := fresh(t, 10)
	create(t, s, rich(api.KindPod, "a"))
	for _, kind := range append([]int{0, 1, 2, 3, 4}, noKinds...) {
		for _, name := range []string{"a", "b", "", "A", strings.Repeat("a", 1000)} {
			o, ok := s.Get(kind, name)
			if kind == api.KindPod && name == "a" {
				same(t, ok, true)
			} else if ok || !reflect.DeepEqual(o, api.Object{}) {
				t.Errorf("Get(%d, %q): %v, %v", kind, name, o, ok)
			}
		}
	}
}

// TestListRises: names rise byte by byte, in whatever order they came.
func TestListRises(t *testing.T) {
	rising := []string{"0", "00", "1", "10", "9", "a", "a--b", "a-b", "a0", "a00", "aa", "ab", "b", "web-2", "web10", "z", "z-z", "zz"}
	r := rand.New(rand.NewSource(1))
	for range 20 {
		s := fresh(t, 200)
		var all []api.Object
		for kind := range api.Kinds {
			for _, name := range rising[kind:] {
				all = append(all, rich(kind, name))
			}
		}
		r.Shuffle(len(all), func(i, j int) { all[i], all[j] = all[j], all[i] })
		create(t, s, all...)
		for kind := range api.Kinds {
			same(t, names(s, kind), rising[kind:])
			for o := range s.List(kind) {
				got, _ := s.Get(kind, o.Name)
				same(t, o, got)
			}
		}
		for _, kind := range noKinds {
			same(t, names(s, kind), []string(nil))
		}
	}
}

// TestListTwice: an iterator tells the same each time, and ends when it is told to.
func TestListTwice(t *testing.T) {
	s := fresh(t, 20)
	for i := range 10 {
		create(t, s, rich(api.KindNode, "n"+strconv.Itoa(i)))
	}
	l := s.List(api.KindNode)
	first := slices.Collect(l)
	same(t, len(first), 10)
	same(t, slices.Collect(l), first)
	for most := 1; most < 10; most++ {
		var got []api.Object
		for o := range l {
			got = append(got, o)
			if len(got) == most {
				break
			}
		}
		same(t, got, first[:most])
	}
	same(t, slices.Collect(l), first)
}

// TestListWithin goes through one iterator within another one, and itself.
func TestListWithin(t *testing.T) {
	s := fresh(t, 20)
	create(t, s, plain(api.KindPod, "a"), plain(api.KindPod, "b"), plain(api.KindNode, "c"))
	l := s.List(api.KindPod)
	var got []string
	for a := range l {
		for b := range l {
			for c := range s.List(api.KindNode) {
				got = append(got, a.Name+b.Name+c.Name)
			}
		}
	}
	same(t, got, []string{"aac", "abc", "bac", "bbc"})
}

// TestListMeanwhile changes, and lets go, what was told already, and things of
// other kinds: what is told further on stays as it would have been.
func TestListMeanwhile(t *testing.T) {
	for gone := range 2 {
		s := fresh(t, 50)
		for i := range 10 {
			create(t, s, plain(api.KindPod, "p"+strconv.Itoa(i)), plain(api.KindNode, "p"+strconv.Itoa(9-i)))
		}
		want := slices.Collect(s.List(api.KindPod))
		var got []api.Object
		for o := range s.List(api.KindPod) {
			got = append(got, o)
			if gone == 1 {
				_, e := s.Delete(api.KindPod, o.Name, o.Version)
				same(t, e, api.OK)
			} else {
				o.Pod.Since++
				v, e := s.Update(o)
				done(t, v, e, s.Now())
			}
			_, e := s.Delete(api.KindNode, o.Name, 0)
			same(t, e, api.OK)
			create(t, s, plain(api.KindWorkload, o.Name))
		}
		same(t, got, want)
		same(t, s.Len(), 20-10*gone)
		same(t, names(s, api.KindNode), []string(nil))
	}
}

// P8.2, Len and Now

func TestLenAndNow(t *testing.T) {
	s := fresh(t, 3)
	for i, step := range []struct {
		do  func() (uint64, api.Errno)
		len int
	}{
		{func() (uint64, api.Errno) { return s.Create(plain(api.KindNode, "a")) }, 1},
		{func() (uint64, api.Errno) { return s.Create(plain(api.KindPod, "a")) }, 2},
		{func() (uint64, api.Errno) { return s.Delete(api.KindNode, "a", 1) }, 1},
		{func() (uint64, api.Errno) { return s.Delete(api.KindPod, "a", 0) }, 0},
		{func() (uint64, api.Errno) { return s.Create(plain(api.KindPod, "a")) }, 1},
	} {
		v, e := step.do()
		done(t, v, e, uint64(i+1))
		same(t, s.Now(), v)
		same(t, s.Len(), step.len)
	}
}

// P8.2, Since

func TestSince(t *testing.T) {
	s := fresh(t, 3)
	create(t, s, plain(api.KindNode, "a"), plain(api.KindGroup, "b"))
	o, _ := s.Get(api.KindNode, "a")
	s.Update(o)
	s.Delete(api.KindGroup, "b", 0)
	all := []api.Event{
		{Type: api.Created, Kind: api.KindNode, Name: "a", Version: 1},
		{Type: api.Created, Kind: api.KindGroup, Name: "b", Version: 2},
		{Type: api.Updated, Kind: api.KindNode, Name: "a", Version: 3},
		{Type: api.Deleted, Kind: api.KindGroup, Name: "b", Version: 4},
	}
	for version := range 5 {
		l, e := s.Since(uint64(version))
		same(t, e, api.OK)
		same(t, slices.Concat(all[:version], l), all)
		same(t, len(l), 4-version)
	}
	for _, version := range []uint64{5, 6, 1024, 1028, 1 << 63, math.MaxUint64} {
		if l, e := s.Since(version); l != nil || e != api.ErrArg {
			t.Errorf("Since(%d): %v, %d", version, l, e)
		}
	}
}

// TestSinceGone looks at a store behind many changes: the last 1024 are kept.
func TestSinceGone(t *testing.T) {
	s := fresh(t, 3)
	var all []api.Event
	create(t, s, plain(api.KindPod, "a"))
	all = append(all, api.Event{Type: api.Created, Kind: api.KindPod, Name: "a", Version: 1})
	for now := 1; now <= 3100; now++ {
		at := []int{0, 1, now - 1026, now - 1025, now - 1024, now - 1023, now - 1022, now - 500, now - 1, now, now + 1, now + 1024}
		for _, from := range at {
			if from < 0 {
				continue
			}
			l, e := s.Since(uint64(from))
			switch {
			case from > now:
				same(t, l, []api.Event(nil))
				same(t, e, api.ErrArg)
			case now-from > 1024:
				same(t, l, []api.Event(nil))
				same(t, e, api.ErrGone)
			case e != api.OK || !slices.Equal(l, all[from:]):
				t.Fatalf("Since(%d) at %d: %v, %d", from, now, l, e)
			}
		}
		o, there := s.Get(api.KindPod, "a")
		change := api.Event{Type: api.Updated, Kind: api.KindPod, Name: "a", Version: uint64(now + 1)}
		switch {
		case !there:
			change.Type = api.Created
			s.Create(plain(api.KindPod, "a"))
		case now%3 == 0:
			change.Type = api.Deleted
			s.Delete(api.KindPod, "a", 0)
		default:
			s.Update(o)
		}
		all = append(all, change)
	}
}

// P8.2, Copy

func TestCopy(t *testing.T) {
	for _, changes := range []int{0, 1, 5, 1023, 1024, 1025, 2500} {
		s := fresh(t, 7)
		r := rand.New(rand.NewSource(int64(changes)))
		for s.Now() < uint64(changes) {
			chance(r, s)
		}
		c := s.Copy()
		was := see(s)
		same(t, see(c), was)
		for range 50 { // what becomes of the one becomes of it alone
			chance(r, c)
		}
		same(t, see(s), was)
		is := see(c)
		for range 50 {
			chance(r, s)
		}
		same(t, see(c), is)
	}
}

// TestCopyGoesOn: the same calls tell the same of a store and of its copy.
func TestCopyGoesOn(t *testing.T) {
	s := fresh(t, 7)
	r := rand.New(rand.NewSource(3))
	for range 1500 {
		chance(r, s)
	}
	c := s.Copy()
	for i := range 1500 {
		chance(rand.New(rand.NewSource(int64(i))), s)
		chance(rand.New(rand.NewSource(int64(i))), c)
	}
	same(t, see(c), see(s))
}

// P8.2, a nil store

func TestNilStore(t *testing.T) {
	var s *Store
	for _, o := range []api.Object{{}, {Kind: -1}, plain(api.KindNode, "a")} {
		if v, e := s.Create(o); v != 0 || e != api.ErrArg {
			t.Error(v, e)
		}
		if v, e := s.Update(o); v != 0 || e != api.ErrArg {
			t.Error(v, e)
		}
		if v, e := s.Delete(o.Kind, o.Name, 1); v != 0 || e != api.ErrArg {
			t.Error(v, e)
		}
		if got, ok := s.Get(o.Kind, o.Name); ok || !reflect.DeepEqual(got, api.Object{}) {
			t.Error(got, ok)
		}
		same(t, names(s, o.Kind), []string(nil))
	}
	for _, version := range []uint64{0, 1, math.MaxUint64} {
		if l, e := s.Since(version); l != nil || e != api.ErrArg {
			t.Error(l, e)
		}
	}
	if s.Len() != 0 || s.Now() != 0 || s.Copy() != nil {
		t.Error(s.Len(), s.Now(), s.Copy())
	}
}

// P8.3

// chance is some change of a store, or one that it refuses.
func chance(r *rand.Rand, s *Store) (api.Event, api.Errno) {
	kind, name := r.Intn(api.Kinds), string(rune('a'+r.Intn(3)))
	o := rich(kind, name)
	o.Version = uint64(r.Intn(3))
	if is, ok := s.Get(kind, name); ok && r.Intn(4) > 0 {
		o.Version = is.Version
	}
	if r.Intn(12) == 0 {
		o.Name = "-"
	}
	var e api.Errno
	x := api.Event{Type: r.Intn(3), Kind: kind, Name: name}
	switch x.Type {
	case api.Created:
		x.Version, e = s.Create(o)
	case api.Updated:
		x.Version, e = s.Update(o)
	case api.Deleted:
		x.Version, e = s.Delete(kind, o.Name, o.Version)
	}
	return x, e
}

// TestEachChange: an error leaves all as it was, a change is the next version,
// its event's, and that of the object that it left.
func TestEachChange(t *testing.T) {
	r := rand.New(rand.NewSource(4))
	s := fresh(t, 7)
	changes := 0
	for range 3000 {
		before := see(s)
		x, e := chance(r, s)
		if e != api.OK {
			same(t, x.Version, uint64(0))
			same(t, see(s), before)
			continue
		}
		changes++
		same(t, x.Version, before.Now+1)
		same(t, s.Now(), x.Version)
		l, e := s.Since(before.Now)
		same(t, e, api.OK)
		same(t, l, []api.Event{x})
		o, there := s.Get(x.Kind, x.Name)
		same(t, there, x.Type != api.Deleted)
		if there {
			same(t, o.Version, x.Version)
		}
		same(t, s.Len(), before.Len+map[int]int{api.Created: 1, api.Deleted: -1}[x.Type])
	}
	if changes < 500 {
		t.Errorf("only %d changes", changes)
	}
}

// inventory is which names there are, by kinds.
func inventory(s *Store) map[[2]string]uint64 {
	m := map[[2]string]uint64{}
	for kind := range api.Kinds {
		for o := range s.List(kind) {
			m[[2]string{strconv.Itoa(kind), o.Name}] = o.Version
		}
	}
	return m
}

// TestEventsTellNames: whoever had a copy at a version has, by the events
// since then, the names of now, with their versions.
func TestEventsTellNames(t *testing.T) {
	r := rand.New(rand.NewSource(5))
	s := fresh(t, 7)
	copies := []*Store{s.Copy()}
	for s.Now() < 1500 {
		if _, e := chance(r, s); e == api.OK {
			copies = append(copies, s.Copy())
		}
	}
	want := inventory(s)
	for version, c := range copies {
		l, e := s.Since(uint64(version))
		if version < 1500-1024 {
			same(t, e, api.ErrGone)
			continue
		}
		same(t, e, api.OK)
		got := inventory(c)
		for _, x := range l {
			k := [2]string{strconv.Itoa(x.Kind), x.Name}
			switch _, there := got[k]; {
			case there != (x.Type != api.Created):
				t.Fatalf("%+v, and was it there: %v", x, there)
			case x.Type == api.Deleted:
				delete(got, k)
			default:
				got[k] = x.Version
			}
		}
		same(t, got, want)
	}
}

// wipe sets nought to all rows that a value has, and to their spare room.
func wipe(v reflect.Value) {
	switch v.Kind() {
	case reflect.Struct:
		for i := range v.NumField() {
			wipe(v.Field(i))
		}
	case reflect.Slice:
		all := v.Slice(0, v.Cap())
		for i := range all.Len() {
			all.Index(i).SetZero()
		}
	}
}

// TestMemoryOfWhatIsHandedIn: neither is it changed, nor is it kept.
func TestMemoryOfWhatIsHandedIn(t *testing.T) {
	for kind := range api.Kinds {
		s := fresh(t, 5)
		o := rich(kind, "a")
		create(t, s, o)
		same(t, o, rich(kind, "a"))
		was := see(s)
		wipe(reflect.ValueOf(o))
		same(t, see(s), was)
		o = rich(kind, "a")
		o.Version = 1
		v, e := s.Update(o)
		done(t, v, e, 2)
		o.Version = 0
		same(t, o, rich(kind, "a"))
		was = see(s)
		wipe(reflect.ValueOf(o))
		same(t, see(s), was)
	}
}

// TestDefaultsOfWhatIsHandedIn: they are set in the store alone.
func TestDefaultsOfWhatIsHandedIn(t *testing.T) {
	s := fresh(t, 5)
	o := bare("h")
	o.Hpa.Up.Policies = make([]api.Policy, 0, 4)
	create(t, s, o)
	o.Version = 1
	v, e := s.Update(o)
	done(t, v, e, 2)
	same(t, o.Hpa.Up.Policies[:4], make([]api.Policy, 4))
}

// TestMemoryOfAnswers wipes what a store answered: neither it, nor what else
// it answered, is another one then.
func TestMemoryOfAnswers(t *testing.T) {
	s := fresh(t, 10)
	for kind := range api.Kinds {
		create(t, s, rich(kind, "a"), rich(kind, "b"))
	}
	was := see(s)
	c := s.Copy()
	for kind := range api.Kinds {
		o, _ := s.Get(kind, "a")
		twin, _ := s.Get(kind, "a")
		list := slices.Collect(s.List(kind))
		wipe(reflect.ValueOf(o))
		same(t, list[0], twin)
		for _, o := range list {
			wipe(reflect.ValueOf(o))
		}
		for o := range c.List(kind) {
			wipe(reflect.ValueOf(o))
		}
		o, _ = s.Get(kind, "a")
		same(t, o, twin)
		same(t, see(s), was)
		same(t, see(c), was)
	}
	l, _ := s.Since(0)
	wipe(reflect.ValueOf(l))
	same(t, see(s), was)
	same(t, see(c), was)
}

// TestCopySharesNothing looks into both: no row of theirs is one.
func TestCopySharesNothing(t *testing.T) {
	s := fresh(t, 10)
	for kind := range api.Kinds {
		create(t, s, rich(kind, "a"))
	}
	c := s.Copy()
	was := see(c)
	for _, o := range s.objects {
		wipe(reflect.ValueOf(o))
	}
	wipe(reflect.ValueOf(s.events))
	same(t, see(c), was)
}

// TestSpareRoom is of rows with spare room that more is put behind: what was
// answered ahead stays.
func TestSpareRoom(t *testing.T) {
	s := fresh(t, 10)
	create(t, s, rich(api.KindNode, "a"))
	early, _ := s.Since(0)
	create(t, s, rich(api.KindNode, "b"))
	_ = append(early, api.Event{Name: "x"})
	l, _ := s.Since(0)
	same(t, l[1].Name, "b")
	same(t, len(early), 1)
}
